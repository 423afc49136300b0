package plan

import (
	"slices"

	"pinset/api"
	"pinset/shelf"
	"pinset/texts"
)

// manifest is what a manifest's text says.
type manifest struct {
	problem int // NoManifest or Malformed: it says nothing then; 0: neither
	says    api.Manifest
}

func readManifest(text shelf.Text) manifest {
	if !text.There {
		return manifest{problem: api.NoManifest}
	}
	says, slips := texts.Manifest(text.Body)
	if len(slips) > 0 {
		return manifest{problem: api.Malformed}
	}
	return manifest{says: says}
}

func (m manifest) sameAs(ahead finding) bool {
	switch was := ahead.(type) {
	case manifest:
		return m.problem == was.problem && m.says.Path == was.says.Path &&
			slices.Equal(m.says.Requires, was.says.Requires) &&
			slices.Equal(m.says.Excludes, was.says.Excludes) &&
			slices.Equal(m.says.Replaces, was.says.Replaces)
	}
	return false
}

// problemAs is the kind of what is wrong with it as the manifest of a path, or 0.
func (m manifest) problemAs(path string) int {
	if m.problem == 0 && m.says.Path != path {
		return api.WrongPath
	}
	return m.problem
}

// index is what an index's text says.
type index struct {
	problem  int      // NoIndex or BadIndex: it says nothing then; 0: neither
	versions []string // in order
}

func readIndex(text shelf.Text) index {
	if !text.There {
		return index{problem: api.NoIndex}
	}
	versions, slips := texts.Index(text.Body)
	if len(slips) > 0 {
		return index{problem: api.BadIndex}
	}
	return index{versions: versions}
}

func (x index) sameAs(ahead finding) bool {
	switch was := ahead.(type) {
	case index:
		return x.problem == was.problem && slices.Equal(x.versions, was.versions)
	}
	return false
}

package plan

import (
	"pinset/api"
	"pinset/texts"
)

// manifest is what a manifest's text says.
type manifest struct {
	problem int // NoManifest or Malformed: it says nothing then; 0: neither
	says    api.Manifest
}

func readManifest(text string, there bool) manifest {
	if !there {
		return manifest{problem: api.NoManifest}
	}
	says, slips := texts.Manifest(text)
	if len(slips) > 0 {
		return manifest{problem: api.Malformed}
	}
	return manifest{says: says}
}

// problemAs is the kind of what is wrong with it as the manifest of a path, or 0.
func (m manifest) problemAs(path string) int {
	if m.problem == 0 && m.says.Path != path {
		return api.WrongPath
	}
	return m.problem
}

// index is what an index's text says.
type index struct {
	problem  int      // NoIndex or BadIndex: it says nothing then; 0: neither
	versions []string // in order
}

func readIndex(text string, there bool) index {
	if !there {
		return index{problem: api.NoIndex}
	}
	versions, slips := texts.Index(text)
	if len(slips) > 0 {
		return index{problem: api.BadIndex}
	}
	return index{versions: versions}
}

// Package shelf keeps the texts that are edited, and which path is the root's.
package shelf

import (
	"strings"

	"pinset/api"
	"pinset/names"
)

// kind is of what a text is.
type kind int

const (
	ofManifest kind = iota
	ofIndex
)

// place is where a text lies; that of an index has no version.
type place struct {
	kind          kind
	path, version string
}

type text struct {
	body string
}

// Shelf is texts and a root. Its edits tell what is wrong with what they are given, and then change nothing.
type Shelf struct {
	texts    map[place]text
	root     string // empty: there is none
	revision int
}

// New is a shelf without texts and without a root.
func New() Shelf { return Shelf{texts: map[place]text{}} }

// PutManifest lays a manifest's text down under a path and a version.
func (s *Shelf) PutManifest(path string, version string, body string) api.Errno {
	if e := checkModule(path, version); e != api.OK {
		return e
	}
	return s.put(place{ofManifest, path, version}, body, api.MaxManifests)
}

// DropManifest takes the manifest's text under a path and a version away.
func (s *Shelf) DropManifest(path string, version string) api.Errno {
	if e := checkModule(path, version); e != api.OK {
		return e
	}
	s.drop(place{ofManifest, path, version})
	return api.OK
}

// PutIndex lays an index's text down under a path.
func (s *Shelf) PutIndex(path string, body string) api.Errno {
	if !names.IsPath(path) {
		return api.ErrPath
	}
	return s.put(place{kind: ofIndex, path: path}, body, api.MaxIndexes)
}

// DropIndex takes the index's text under a path away.
func (s *Shelf) DropIndex(path string) api.Errno {
	if !names.IsPath(path) {
		return api.ErrPath
	}
	s.drop(place{kind: ofIndex, path: path})
	return api.OK
}

// SetRoot says which path is the root's; empty: there is no root.
func (s *Shelf) SetRoot(path string) api.Errno {
	if path != "" && !names.IsPath(path) {
		return api.ErrPath
	}
	if path != s.root {
		s.root = strings.Clone(path)
		s.revision++
	}
	return api.OK
}

// Root is the root's path; empty: there is no root.
func (s *Shelf) Root() string { return s.root }

// Revision is how many edits have changed something.
func (s *Shelf) Revision() int { return s.revision }

// Manifest is the manifest's text under a path and a version, and whether there is one.
func (s *Shelf) Manifest(path string, version string) (string, bool) {
	t, there := s.texts[place{ofManifest, path, version}]
	return t.body, there
}

// Index is the index's text under a path, and whether there is one.
func (s *Shelf) Index(path string) (string, bool) {
	t, there := s.texts[place{kind: ofIndex, path: path}]
	return t.body, there
}

// checkModule tells what is wrong with what a manifest is to lie under: a root's has an empty version.
func checkModule(path string, version string) api.Errno {
	if !names.IsPath(path) {
		return api.ErrPath
	}
	if _, ok := names.ParseVersion(version); !ok && version != "" {
		return api.ErrVersion
	}
	return api.OK
}

func (s *Shelf) put(p place, body string, most int) api.Errno {
	old, there := s.texts[p]
	if !there && s.count(p.kind) >= most {
		return api.ErrMany
	}
	if there && old.body == body {
		return api.OK
	}
	// What is handed in may be a small piece of something great: what is kept is a copy, which holds nothing else.
	p.path, p.version = strings.Clone(p.path), strings.Clone(p.version)
	s.texts[p] = text{strings.Clone(body)}
	s.revision++
	return api.OK
}

func (s *Shelf) drop(p place) {
	if _, there := s.texts[p]; there {
		delete(s.texts, p)
		s.revision++
	}
}

// count is how many texts of a kind there are.
func (s *Shelf) count(k kind) int {
	n := 0
	for p := range s.texts {
		if p.kind == k {
			n++
		}
	}
	return n
}

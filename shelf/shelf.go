// Package shelf keeps the texts that are edited, and which path is the root's.
package shelf

import (
	"strings"

	"pinset/api"
	"pinset/names"
)

// Kind is of what a text is.
type Kind int

const (
	OfManifest Kind = iota
	OfIndex
	OfRoot // the root's path: what is worked out hangs on it as on a text, so it lies where texts lie
)

// Place is where a text lies. That of an index has no version, that of the root's path no path either.
type Place struct {
	Kind          Kind
	Path, Version string
}

// Text is what lies in a place, and whether something does.
type Text struct {
	Body  string
	There bool
}

// Shelf is texts and a root. Its edits tell what is wrong with what they are given, and then change nothing.
type Shelf struct {
	texts    map[Place]Text
	revision int
}

// New is a shelf without texts and without a root.
func New() *Shelf { return &Shelf{texts: map[Place]Text{}} }

// PutManifest lays a manifest's text down under a path and a version.
func (s *Shelf) PutManifest(path string, version string, body string) api.Errno {
	if e := checkModule(path, version); e != api.OK {
		return e
	}
	return s.put(Place{OfManifest, path, version}, body, api.MaxManifests)
}

// DropManifest takes the manifest's text under a path and a version away.
func (s *Shelf) DropManifest(path string, version string) api.Errno {
	if e := checkModule(path, version); e != api.OK {
		return e
	}
	s.drop(Place{OfManifest, path, version})
	return api.OK
}

// PutIndex lays an index's text down under a path.
func (s *Shelf) PutIndex(path string, body string) api.Errno {
	if !names.IsPath(path) {
		return api.ErrPath
	}
	return s.put(Place{Kind: OfIndex, Path: path}, body, api.MaxIndexes)
}

// DropIndex takes the index's text under a path away.
func (s *Shelf) DropIndex(path string) api.Errno {
	if !names.IsPath(path) {
		return api.ErrPath
	}
	s.drop(Place{Kind: OfIndex, Path: path})
	return api.OK
}

// SetRoot says which path is the root's; empty: there is no root.
func (s *Shelf) SetRoot(path string) api.Errno {
	if path == "" {
		s.drop(Place{Kind: OfRoot})
		return api.OK
	}
	if !names.IsPath(path) {
		return api.ErrPath
	}
	return s.put(Place{Kind: OfRoot}, path, 1)
}

// Revision is how many edits have changed something.
func (s *Shelf) Revision() int { return s.revision }

// At is what lies in a place.
func (s *Shelf) At(p Place) Text { return s.texts[p] }

// checkModule tells what is wrong with what a manifest is to lie under: a root's has an empty version.
func checkModule(path string, version string) api.Errno {
	if !names.IsPath(path) {
		return api.ErrPath
	}
	if _, ok := names.ParseVersion(version); !ok && version != "" {
		return api.ErrVersion
	}
	return api.OK
}

func (s *Shelf) put(p Place, body string, most int) api.Errno {
	old := s.texts[p]
	if !old.There && s.count(p.Kind) >= most {
		return api.ErrMany
	}
	if old.There && old.Body == body {
		return api.OK
	}
	// What is handed in may be a small piece of something great: what is kept is a copy, which holds nothing else.
	p.Path, p.Version = strings.Clone(p.Path), strings.Clone(p.Version)
	s.texts[p] = Text{strings.Clone(body), true}
	s.revision++
	return api.OK
}

func (s *Shelf) drop(p Place) {
	if s.texts[p].There {
		delete(s.texts, p)
		s.revision++
	}
}

// count is how many texts of a kind there are.
func (s *Shelf) count(k Kind) int {
	n := 0
	for p := range s.texts {
		if p.Kind == k {
			n++
		}
	}
	return n
}

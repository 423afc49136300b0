// Package pinset: pinned versions of modules: see DOC.md.
package pinset

import (
	"pinset/api"
	"pinset/names"
	"pinset/orders"
	"pinset/plan"
	"pinset/shelf"
	"pinset/texts"
)

// Topo is an order that is kept while edges come and go.
type Topo struct {
	row orders.Row
}

// Engine is texts, and what was worked out of them.
type Engine struct {
	shelf *shelf.Shelf
	desk  *plan.Desk
	told  api.Answer // what Diff has told so far
}

// Compare tells which of two versions goes ahead (P3).
func Compare(a string, b string) (int, api.Errno) {
	v, aIsVersion := names.ParseVersion(a)
	w, bIsVersion := names.ParseVersion(b)
	if !aIsVersion || !bIsVersion {
		return 0, api.ErrVersion
	}
	return v.Compare(w), api.OK
}

// Manifest reads a manifest's text (P4).
func Manifest(text string) (api.Manifest, []api.Slip) { return texts.Manifest(text) }

// Format writes a manifest (P5).
func Format(m api.Manifest) string { return texts.Format(m) }

// Index reads an index's text (P6).
func Index(text string) ([]string, []api.Slip) { return texts.Index(text) }

// NewTopo is an order of n nodes without edges (P7).
func NewTopo(n int) (*Topo, api.Errno) {
	if n < 0 || n > api.MaxPlaces {
		return nil, api.ErrArg
	}
	return &Topo{orders.NewRow(n)}, api.OK
}

// Add puts an edge in (P8).
func (t *Topo) Add(x int, y int) (api.Errno, []int) { return t.row.Add(x, y) }

// Remove takes an edge out (P9).
func (t *Topo) Remove(x int, y int) bool { return t.row.Remove(x, y) }

// Order tells the order (P9).
func (t *Topo) Order() []int { return t.row.Nodes() }

// New is an engine without texts (P10).
func New(capacity int) (*Engine, api.Errno) {
	if capacity < 1 {
		return nil, api.ErrArg
	}
	s := shelf.New()
	return &Engine{shelf: s, desk: plan.New(s, capacity)}, api.OK
}

// PutManifest lays a manifest's text down (P11).
func (e *Engine) PutManifest(path string, version string, text string) api.Errno {
	return e.shelf.PutManifest(path, version, text)
}

// DropManifest takes a manifest's text away (P11).
func (e *Engine) DropManifest(path string, version string) api.Errno {
	return e.shelf.DropManifest(path, version)
}

// PutIndex lays an index's text down (P11).
func (e *Engine) PutIndex(path string, text string) api.Errno { return e.shelf.PutIndex(path, text) }

// DropIndex takes an index's text away (P11).
func (e *Engine) DropIndex(path string) api.Errno { return e.shelf.DropIndex(path) }

// SetRoot says which module is the root (P11).
func (e *Engine) SetRoot(path string) api.Errno { return e.shelf.SetRoot(path) }

// Revision tells how often the texts have changed (P12).
func (e *Engine) Revision() int { return e.shelf.Revision() }

// Answer tells the build list, the problems and the order (P13 to P16).
func (e *Engine) Answer() api.Answer { return e.desk.Answer() }

// Diff tells what has changed in the answer since it was asked last (P17).
func (e *Engine) Diff() api.Diff {
	ahead := e.told
	e.told = e.desk.Answer()
	return plan.Between(ahead, e.told)
}

// Counts tells how often what was worked out (P18).
func (e *Engine) Counts() api.Counts { return e.desk.Counts() }

// Resident tells how much of what was worked out is kept (P19).
func (e *Engine) Resident() int { return e.desk.Resident() }

// Evict forgets some of it (P19).
func (e *Engine) Evict(n int) { e.desk.Evict(n) }

// Package plan works out, of the texts on a shelf, which versions are to be installed and in which order.
package plan

import (
	"pinset/api"
	"pinset/shelf"
)

// kind is which of the things that are worked out is meant.
type kind int

const (
	ofManifest kind = iota
	ofIndex
	ofWants
	ofList
	ofOrder
)

// question is what is asked for. An index has no version; the list and the order have no path either.
type question struct {
	kind          kind
	path, version string
}

// finding is what was worked out for a question: a manifest, an index, wants, a list or an order.
type finding any

// desk is where one answer is worked out. It keeps what it has found, since much is asked for more than once.
type desk struct {
	shelf *shelf.Shelf
	found map[question]finding
}

func (d *desk) manifest(m api.Module) manifest {
	f, _ := d.find(question{ofManifest, m.Path, m.Version}).(manifest)
	return f
}

func (d *desk) index(path string) index {
	f, _ := d.find(question{kind: ofIndex, path: path}).(index)
	return f
}

func (d *desk) wants(node api.Module) wants {
	f, _ := d.find(question{ofWants, node.Path, node.Version}).(wants)
	return f
}

func (d *desk) list() list {
	f, _ := d.find(question{kind: ofList}).(list)
	return f
}

func (d *desk) order() order {
	f, _ := d.find(question{kind: ofOrder}).(order)
	return f
}

func (d *desk) find(q question) finding {
	if f, ok := d.found[q]; ok {
		return f
	}
	f := d.workOut(q)
	d.found[q] = f
	return f
}

func (d *desk) workOut(q question) finding {
	switch q.kind {
	case ofManifest:
		return readManifest(d.shelf.Manifest(q.path, q.version))
	case ofIndex:
		return readIndex(d.shelf.Index(q.path))
	case ofWants:
		return d.workOutWants(api.Module{Path: q.path, Version: q.version})
	case ofList:
		return d.workOutList()
	}
	return d.workOutOrder()
}

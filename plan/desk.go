// Package plan works out, of the texts on a shelf, which versions are to be installed and in which order, and keeps what it has worked out.
package plan

import (
	"pinset/api"
	"pinset/shelf"
)

// kind is which of the things that are worked out is meant.
type kind int

const (
	ofManifest kind = iota
	ofIndex
	ofWants
	ofList
	ofOrder
)

// question is what is asked for. An index has no version; the list and the order have no path either.
type question struct {
	kind          kind
	path, version string
}

// finding is what was worked out for a question: a manifest, an index, wants, a list or an order.
type finding interface {
	// sameAs tells whether what was there ahead is the same; nil: nothing was.
	sameAs(ahead finding) bool
}

// kept is a finding with what tells how long it may be taken.
type kept struct {
	finding finding
	ties    []tie // what it hung on, in the order in which it was asked for
	changed int   // the revision at which the finding became another one
	checked int   // the last revision at which it was known to hold
}

// Desk is where answers are worked out of a shelf's texts. It keeps what it has found from answer to answer.
type Desk struct {
	shelf    *shelf.Shelf
	capacity int
	found    map[question]kept
	counts   api.Counts
}

// New is a desk on which nothing is kept yet, and behind each answer no more than the capacity.
func New(s *shelf.Shelf, capacity int) *Desk {
	return &Desk{shelf: s, capacity: capacity, found: map[question]kept{}}
}

// Counts is how often what was worked out.
func (d *Desk) Counts() api.Counts { return d.counts }

// find is what holds now for a question. It is worked out only if it is not kept, or something it hung on has changed.
func (d *Desk) find(q question) kept {
	now := d.shelf.Revision()
	k, there := d.found[q]
	if there && k.checked == now {
		return k
	}
	if !there || !d.holds(k) {
		k = d.workOut(q, k)
	}
	k.checked = now
	d.found[q] = k
	return k
}

// holds tells whether nothing has changed that a finding hung on.
// Behind a tie that has changed other things may be asked for than last time: to check those that were would work out what nobody needs.
func (d *Desk) holds(k kept) bool {
	held := 0
check:
	for _, t := range k.ties {
		switch t := t.(type) {
		case reading:
			if d.shelf.At(t.place) != t.text {
				break check
			}
		case question:
			if d.find(t).changed > k.checked {
				break check
			}
		}
		held++
	}
	return held == len(k.ties)
}

// workOut works out what is asked for. If it is the same as ahead, it has not changed for what hangs on it.
func (d *Desk) workOut(q question, ahead kept) kept {
	t := task{desk: d}
	f := t.workOut(q)
	d.count(f)
	k := kept{finding: f, ties: t.ties, changed: d.shelf.Revision()}
	if f.sameAs(ahead.finding) {
		k.changed = ahead.changed
	}
	return k
}

func (d *Desk) count(f finding) {
	switch f.(type) {
	case manifest:
		d.counts.Manifests++
	case index:
		d.counts.Indexes++
	case wants:
		d.counts.Wants++
	case list:
		d.counts.Lists++
	case order:
		d.counts.Orders++
	}
}

package plan

import (
	"cmp"
	"slices"
	"strings"
)

// Resident is of how many things the finding is kept.
func (d *Desk) Resident() int { return len(d.found) }

// Evict forgets one thing, if there are some: n is its place among those that are kept, as they would be forgotten, counted round and round.
func (d *Desk) Evict(n int) {
	all := d.inTurn()
	if len(all) == 0 {
		return
	}
	at := n % len(all)
	if at < 0 {
		at += len(all)
	}
	delete(d.found, all[at].question)
}

// shrink forgets what is above the capacity.
func (d *Desk) shrink() {
	excess := len(d.found) - d.capacity
	if excess <= 0 {
		return
	}
	for _, r := range d.inTurn()[:excess] {
		delete(d.found, r.question)
	}
}

// resident is something that is kept, and when it was needed last.
type resident struct {
	question question
	needed   int
}

// inTurn is all that is kept, in the order in which it is forgotten: first what was needed longest ago.
// All that an answer needs is known to hold at its revision, and nothing else is, so that revision tells when something was needed.
// Of what one answer needed the list and the order go last, since with them alone it can be told again.
func (d *Desk) inTurn() []resident {
	all := make([]resident, 0, len(d.found))
	for q, k := range d.found {
		all = append(all, resident{q, k.checked})
	}
	slices.SortFunc(all, compareResidents)
	return all
}

func compareResidents(a resident, b resident) int {
	return cmp.Or(
		cmp.Compare(a.needed, b.needed),
		cmp.Compare(a.question.kind, b.question.kind),
		strings.Compare(a.question.path, b.question.path),
		strings.Compare(a.question.version, b.question.version),
	)
}

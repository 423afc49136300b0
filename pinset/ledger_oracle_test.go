package pinset_test

import (
	"fmt"

	"pinset/api"
)

// thing is one that is worked out ("manifest", "index", "wants", "list",
// "order"), or one that such a thing hangs on and that is not worked out:
// a text (under its manifest's or index's name), the root's path ("root").
type thing struct{ kind, path, version string }

// page is what a thing was when it was worked out last, and what it hung on.
type page struct {
	value string
	turns int // how often it has become another one
	texts map[thing]string
	hung  map[thing]int // by their turns
}

// ledger is how often what is worked out by P18's words, if nothing is ever
// forgotten: for each answer all that it needs is made from the first word
// on, and held against what it was when an answer needed it last.
type ledger struct {
	world  *world
	pages  map[thing]page
	needed map[thing]bool // by the last answer
	counts api.Counts
}

func newLedger(w *world) *ledger { return &ledger{world: w, pages: map[thing]page{}} }

func manifestThing(m api.Module) thing { return thing{"manifest", m.Path, m.Version} }

func wantsThing(m api.Module) thing { return thing{"wants", m.Path, m.Version} }

func indexThing(path string) thing { return thing{kind: "index", path: path} }

var rootThing, listThing, orderThing = thing{kind: "root"}, thing{kind: "list"}, thing{kind: "order"}

// answer takes down what an answer works out. Too many nodes are not for it:
// which of them are asked ahead of the end is not said.
func (l *ledger) answer() {
	l.needed = map[thing]bool{}
	w := l.world
	if w.root == "" {
		l.need(listThing, "none", []thing{rootThing})
		l.need(orderThing, "", nil, listThing)
		return
	}
	nodes := w.reached()
	l.say(api.Module{Path: w.root})
	asked := []thing{}
	for node, own := range nodes {
		l.say(w.sourceOf(node))
		hung := []thing{manifestThing(api.Module{Path: w.root}), manifestThing(w.sourceOf(node))}
		for _, path := range w.asksFor(node) {
			l.need(indexThing(path), w.indexSays(path), []thing{indexThing(path)})
			hung = append(hung, indexThing(path))
		}
		l.need(wantsThing(node), fmt.Sprintf("%#v", own), []thing{rootThing}, hung...)
		asked = append(asked, wantsThing(node))
	}
	a := w.answer()
	l.need(listThing, fmt.Sprintf("%q", a.Modules), []thing{rootThing}, asked...)
	hung := []thing{listThing}
	for _, m := range a.Modules {
		hung = append(hung, wantsThing(m))
	}
	l.need(orderThing, "", nil, hung...)
}

func (l *ledger) say(m api.Module) {
	l.need(manifestThing(m), l.world.manifestSays(m), []thing{manifestThing(m)})
}

// need works a thing out, unless it was and nothing on which it hung has changed.
func (l *ledger) need(of thing, value string, texts []thing, hung ...thing) {
	old, there := l.pages[of]
	if l.needed[of] || there && !l.hasChanged(old) {
		l.needed[of] = true
		return
	}
	l.needed[of] = true
	p := page{value: value, turns: old.turns, texts: map[thing]string{}, hung: map[thing]int{}}
	if !there || old.value != value {
		p.turns++
	}
	for _, x := range texts {
		p.texts[x] = l.text(x)
	}
	for _, x := range hung {
		p.hung[x] = l.pages[x].turns
	}
	l.pages[of] = p
	l.count(of.kind)
}

// hasChanged tells whether something has changed on which a thing hung. What
// it hung on and is not needed now tells that something ahead of it has.
func (l *ledger) hasChanged(p page) bool {
	for x, was := range p.texts {
		if l.text(x) != was {
			return true
		}
	}
	for x, turns := range p.hung {
		if !l.needed[x] || l.pages[x].turns != turns {
			return true
		}
	}
	return false
}

func (l *ledger) text(of thing) string {
	text, there := l.world.root, true
	switch of.kind {
	case "manifest":
		text, there = l.world.manifests[api.Module{Path: of.path, Version: of.version}]
	case "index":
		text, there = l.world.indexes[of.path]
	}
	return fmt.Sprint(there, text)
}

func (l *ledger) count(kind string) {
	switch kind {
	case "manifest":
		l.counts.Manifests++
	case "index":
		l.counts.Indexes++
	case "wants":
		l.counts.Wants++
	case "list":
		l.counts.Lists++
	case "order":
		l.counts.Orders++
	}
}

// manifestSays is what a manifest's text says, be it of another path.
func (w *world) manifestSays(m api.Module) string {
	text, there := w.manifests[m]
	switch {
	case !there:
		return "none"
	case w.parse(text).hasSlips:
		return "slips"
	}
	return fmt.Sprintf("%q", w.parse(text).says)
}

func (w *world) indexSays(path string) string {
	text, there := w.indexes[path]
	switch {
	case !there:
		return "none"
	case len(slipsOf(text, indexLineForms, false)) > 0:
		return "slips"
	}
	return fmt.Sprintf("%q", versionsOf(text))
}

// asksFor is the paths for whose indexes a node asks.
func (w *world) asksFor(node api.Module) []string {
	m, _ := w.said(w.sourceOf(node))
	if m.Path != node.Path {
		return nil
	}
	var paths []string
	for _, r := range m.Requires {
		if r.Path != w.root {
			paths = append(paths, r.Path)
		}
	}
	return paths
}

package plan

import (
	"pinset/api"
	"pinset/shelf"
)

// tie is something that a finding hung on: a reading, or the question for another finding.
type tie any

// reading is a text as it was when it was read.
type reading struct {
	place shelf.Place
	text  shelf.Text
}

// task is the working out of one thing. What it asks for is noted, since what comes of it hangs on that.
type task struct {
	desk *Desk
	ties []tie
}

func (t *task) workOut(q question) finding {
	switch q.kind {
	case ofManifest:
		return readManifest(t.read(shelf.Place{Kind: shelf.OfManifest, Path: q.path, Version: q.version}))
	case ofIndex:
		return readIndex(t.read(shelf.Place{Kind: shelf.OfIndex, Path: q.path}))
	case ofWants:
		return t.workOutWants(api.Module{Path: q.path, Version: q.version})
	case ofList:
		return t.workOutList()
	}
	return t.workOutOrder()
}

func (t *task) read(p shelf.Place) shelf.Text {
	text := t.desk.shelf.At(p)
	t.ties = append(t.ties, reading{p, text})
	return text
}

func (t *task) ask(q question) finding {
	t.ties = append(t.ties, q)
	return t.desk.find(q).finding
}

// root is the root, with an empty path if there is none.
func (t *task) root() api.Module {
	return api.Module{Path: t.read(shelf.Place{Kind: shelf.OfRoot}).Body}
}

func (t *task) manifest(m api.Module) manifest {
	f, _ := t.ask(question{ofManifest, m.Path, m.Version}).(manifest)
	return f
}

func (t *task) index(path string) index {
	f, _ := t.ask(question{kind: ofIndex, path: path}).(index)
	return f
}

func (t *task) wants(node api.Module) wants {
	f, _ := t.ask(question{ofWants, node.Path, node.Version}).(wants)
	return f
}

func (t *task) list() list {
	f, _ := t.ask(question{kind: ofList}).(list)
	return f
}

func (t *task) order() order {
	f, _ := t.ask(question{kind: ofOrder}).(order)
	return f
}

package pinset_test

import (
	"math/rand"
	"slices"
	"testing"

	"pinset/api"
	"pinset/pinset"
)

type edge struct{ from, to int }

// rowModel is an order by the document's words alone: edges in a map, and
// what edges lead to by trying every edge until nothing is new.
type rowModel struct {
	row   []int
	edges map[edge]bool
}

func newRowModel(n int) *rowModel {
	m := &rowModel{edges: map[edge]bool{}}
	for node := range n {
		m.row = append(m.row, node)
	}
	return m
}

func (m *rowModel) isNode(x int) bool { return slices.Contains(m.row, x) }

// reach is all nodes to which edges lead from the node.
func (m *rowModel) reach(node int) map[int]bool {
	found := map[int]bool{}
	for isNew := true; isNew; {
		isNew = false
		for e := range m.edges {
			if (e.from == node || found[e.from]) && !found[e.to] {
				found[e.to], isNew = true, true
			}
		}
	}
	return found
}

// add answers as Add must, but for the way.
func (m *rowModel) add(x, y int) api.Errno {
	switch {
	case !m.isNode(x) || !m.isNode(y):
		return api.ErrArg
	case x == y || m.reach(y)[x]:
		return api.ErrCycle
	}
	if slices.Index(m.row, y) < slices.Index(m.row, x) {
		m.move(x, y)
	}
	m.edges[edge{x, y}] = true
	return api.OK
}

func (m *rowModel) move(x, y int) {
	placeX, placeY := slices.Index(m.row, x), slices.Index(m.row, y)
	fromY := m.reach(y)
	var f, g, places []int
	for place, node := range m.row {
		isF := node == y || place < placeX && fromY[node]
		isG := node == x || place > placeY && m.reach(node)[x]
		if isF {
			f = append(f, node)
		}
		if isG {
			g = append(g, node)
		}
		if isF || isG {
			places = append(places, place)
		}
	}
	for i, node := range slices.Concat(g, f) {
		m.row[places[i]] = node
	}
}

func (m *rowModel) remove(x, y int) bool {
	was := m.edges[edge{x, y}]
	delete(m.edges, edge{x, y})
	return was
}

// isWay: do edges lead along the way from y to x, over no node twice?
func (m *rowModel) isWay(way []int, y, x int) bool {
	if len(way) == 0 || way[0] != y || way[len(way)-1] != x {
		return false
	}
	for i := range way {
		if slices.Contains(way[:i], way[i]) || i > 0 && !m.edges[edge{way[i-1], way[i]}] {
			return false
		}
	}
	return true
}

// sortedEdges is the edges in an order that is the same for the same edges.
func (m *rowModel) sortedEdges() []edge {
	var all []edge
	for x := range len(m.row) {
		for y := range len(m.row) {
			if m.edges[edge{x, y}] {
				all = append(all, edge{x, y})
			}
		}
	}
	return all
}

// pair is an order and its model, which get the same calls.
type pair struct {
	t     *testing.T
	topo  *pinset.Topo
	model *rowModel
}

func newPair(t *testing.T, n int) pair {
	t.Helper()
	return pair{t, newTopo(t, n), newRowModel(n)}
}

func (p pair) add(x, y int) {
	p.t.Helper()
	ahead := p.topo.Order()
	e, way := p.topo.Add(x, y)
	if want := p.model.add(x, y); e != want {
		p.t.Fatalf("P8: Add(%d, %d) at %v with %v = %d, want %d", x, y, ahead, p.model.sortedEdges(), e, want)
	}
	if e == api.ErrCycle && !p.model.isWay(way, y, x) || e != api.ErrCycle && way != nil {
		p.t.Fatalf("P8: Add(%d, %d) at %v with %v = %d and tells %v", x, y, ahead, p.model.sortedEdges(), e, way)
	}
	p.checkOrder("Add", x, y, ahead)
}

func (p pair) remove(x, y int) {
	p.t.Helper()
	ahead := p.topo.Order()
	if was, want := p.topo.Remove(x, y), p.model.remove(x, y); was != want {
		p.t.Fatalf("P9: Remove(%d, %d) = %t, want %t", x, y, was, want)
	}
	p.checkOrder("Remove", x, y, ahead)
}

func (p pair) checkOrder(call string, x, y int, ahead []int) {
	p.t.Helper()
	row := p.topo.Order()
	if !slices.Equal(row, p.model.row) {
		p.t.Fatalf("P8, P9: Order() = %v behind %s(%d, %d) at %v with %v, want %v", row, call, x, y, ahead, p.model.sortedEdges(), p.model.row)
	}
	for e := range p.model.edges {
		if slices.Index(row, e.from) >= slices.Index(row, e.to) {
			p.t.Fatalf("P9: Order() = %v with the edge %v", row, e)
		}
	}
}

// drawCall makes up one call: mostly Add, of nodes for the most part.
func (p pair) drawCall(draw *rand.Rand, n int) {
	p.t.Helper()
	x, y := draw.Intn(n+1), draw.Intn(n+1)
	if draw.Intn(50) == 0 {
		x -= n + 1
	}
	if draw.Intn(3) > 0 {
		p.add(x, y)
		return
	}
	if all := p.model.sortedEdges(); len(all) > 0 && draw.Intn(3) > 0 {
		e := all[draw.Intn(len(all))]
		x, y = e.from, e.to
	}
	p.remove(x, y)
}

package pinset_test

import (
	"math"
	"math/rand"
	"slices"
	"sync"
	"testing"

	"pinset/api"
	"pinset/pinset"
)

func newTopo(t *testing.T, n int) *pinset.Topo {
	t.Helper()
	o, e := pinset.NewTopo(n)
	if o == nil || e != api.OK {
		t.Fatalf("P7: NewTopo(%d) gives an order: %t, and %d", n, o != nil, e)
	}
	return o
}

func checkRow(t *testing.T, o *pinset.Topo, want ...int) {
	t.Helper()
	if row := o.Order(); !slices.Equal(row, want) {
		t.Errorf("P8, P9: Order() = %v, want %v", row, want)
	}
}

func checkAdd(t *testing.T, o *pinset.Topo, x, y int, row ...int) {
	t.Helper()
	if e, way := o.Add(x, y); e != api.OK || way != nil {
		t.Errorf("P8: Add(%d, %d) = %d, %v, want OK, nil", x, y, e, way)
	}
	checkRow(t, o, row...)
}

func checkCycle(t *testing.T, o *pinset.Topo, x, y int, want ...int) {
	t.Helper()
	ahead := o.Order()
	if e, way := o.Add(x, y); e != api.ErrCycle || !slices.Equal(way, want) {
		t.Errorf("P8: Add(%d, %d) = %d, %v, want ErrCycle, %v", x, y, e, way, want)
	}
	checkRow(t, o, ahead...)
	if o.Remove(x, y) {
		t.Errorf("P1, P8: Add(%d, %d) was ErrCycle and put the edge in", x, y)
	}
}

func upTo(n int) []int {
	var all []int
	for i := range n {
		all = append(all, i)
	}
	return all
}

func TestNewTopo(t *testing.T) {
	for _, n := range []int{0, 1, 2, 39, 40} {
		checkRow(t, newTopo(t, n), upTo(n)...)
	}
	for _, n := range []int{-1, -2, -40, 41, 42, 64, 1000, 1 << 32, 1<<32 + 4, math.MaxInt, math.MinInt} {
		if o, e := pinset.NewTopo(n); o != nil || e != api.ErrArg {
			t.Errorf("P7: NewTopo(%d) gives an order: %t, and %d, want ErrArg", n, o != nil, e)
		}
	}
}

func TestNewTopoHasNoEdges(t *testing.T) {
	o := newTopo(t, 40)
	for x := range 40 {
		for y := range 40 {
			if o.Remove(x, y) {
				t.Fatalf("P7: a new order has an edge from %d to %d", x, y)
			}
		}
	}
}

func TestTopoOfNoNodes(t *testing.T) {
	o := newTopo(t, 0)
	if e, way := o.Add(0, 0); e != api.ErrArg || way != nil || o.Remove(0, 0) {
		t.Errorf("P8, P9: an order of no nodes: Add(0, 0) = %d, %v", e, way)
	}
	checkRow(t, o)
}

func TestTopoExample(t *testing.T) {
	o := newTopo(t, 4)
	checkRow(t, o, 0, 1, 2, 3)
	checkAdd(t, o, 3, 1, 0, 3, 2, 1)
	checkAdd(t, o, 1, 2, 0, 3, 1, 2)
	checkCycle(t, o, 2, 3, 3, 1, 2)
}

func TestAddOfWrongNumbers(t *testing.T) {
	o := newTopo(t, 4)
	checkAdd(t, o, 3, 1, 0, 3, 2, 1)
	wrong := []int{-1, -4, 4, 5, 39, 40, 41, 63, 64, 1 << 32, 1<<32 + 1, math.MaxInt, math.MinInt}
	check := func(x, y int) {
		if e, way := o.Add(x, y); e != api.ErrArg || way != nil {
			t.Errorf("P8: Add(%d, %d) of four nodes = %d, %v, want ErrArg, nil", x, y, e, way)
		}
		if o.Remove(x, y) {
			t.Errorf("P9: Remove(%d, %d) of four nodes = true", x, y)
		}
	}
	for _, w := range wrong {
		for x := range 4 {
			check(x, w)
			check(w, x)
		}
		for _, v := range wrong {
			check(w, v)
		}
	}
	checkRow(t, o, 0, 3, 2, 1)
	if !o.Remove(3, 1) {
		t.Error("P1: wrong numbers took an edge out")
	}
}

func TestAddOfANodeToItself(t *testing.T) {
	o := newTopo(t, 3)
	checkAdd(t, o, 2, 0, 2, 1, 0)
	for x := range 3 {
		checkCycle(t, o, x, x, x)
	}
	checkCycle(t, newTopo(t, 1), 0, 0, 0)
	checkCycle(t, newTopo(t, 40), 39, 39, 39)
}

func TestAddOfAnEdgeThatIsThere(t *testing.T) {
	o := newTopo(t, 4)
	checkAdd(t, o, 3, 1, 0, 3, 2, 1)
	checkAdd(t, o, 3, 1, 0, 3, 2, 1)
	if !o.Remove(3, 1) || o.Remove(3, 1) {
		t.Error("P8, P9: an edge that was put in twice is there more than once")
	}
	checkRow(t, o, 0, 3, 2, 1)
}

func TestAddOfEndsThatStandRight(t *testing.T) {
	o := newTopo(t, 5)
	for x := range 5 {
		for y := x + 1; y < 5; y++ {
			checkAdd(t, o, x, y, 0, 1, 2, 3, 4)
		}
	}
	for x := range 5 {
		for y := x + 1; y < 5; y++ {
			if !o.Remove(x, y) {
				t.Errorf("P8: Add(%d, %d) put no edge in", x, y)
			}
		}
	}
}

func TestAddMovesBothSidesAndNoOthers(t *testing.T) {
	o := newTopo(t, 12)
	for _, e := range []edge{{2, 4}, {4, 7}, {2, 11}, {4, 10}, {3, 9}, {6, 9}, {0, 3}, {1, 6}, {5, 8}, {0, 2}, {9, 11}} {
		checkAdd(t, o, e.from, e.to, upTo(12)...)
	}
	// F is 2, 4, 7 (10 and 11 are behind 9), G is 3, 6, 9 (0 and 1 are ahead
	// of 2): 5 and 8 lie between and stay.
	checkAdd(t, o, 9, 2, 0, 1, 3, 6, 9, 5, 2, 4, 8, 7, 10, 11)
}

func TestAddMovesOverManySteps(t *testing.T) {
	o := newTopo(t, 6)
	checkAdd(t, o, 0, 1, upTo(6)...)
	checkAdd(t, o, 1, 2, upTo(6)...)
	checkAdd(t, o, 3, 4, upTo(6)...)
	checkAdd(t, o, 4, 5, upTo(6)...)
	checkAdd(t, o, 5, 0, 3, 4, 5, 0, 1, 2)
	checkCycle(t, o, 2, 3, 3, 4, 5, 0, 1, 2)
}

func TestAddOfTwoNodes(t *testing.T) {
	o := newTopo(t, 2)
	checkAdd(t, o, 1, 0, 1, 0)
	checkCycle(t, o, 0, 1, 1, 0)
	if !o.Remove(1, 0) {
		t.Error("P9: Remove(1, 0) = false")
	}
	checkAdd(t, o, 0, 1, 0, 1)
}

func TestAddAtAllPlaces(t *testing.T) {
	ends := upTo(40)
	ends[0], ends[39] = 39, 0
	checkAdd(t, newTopo(t, 40), 39, 0, ends...)
	chain := newTopo(t, 40)
	for x := range 39 {
		checkAdd(t, chain, x, x+1, upTo(40)...)
	}
	checkCycle(t, chain, 39, 0, upTo(40)...)
	back := newTopo(t, 40)
	for x := 39; x > 0; x-- {
		if e, _ := back.Add(x, x-1); e != api.OK {
			t.Fatalf("P8: Add(%d, %d) = %d", x, x-1, e)
		}
	}
	down := upTo(40)
	slices.Reverse(down)
	checkRow(t, back, down...)
}

func TestRemove(t *testing.T) {
	o := newTopo(t, 4)
	checkAdd(t, o, 3, 1, 0, 3, 2, 1)
	checkAdd(t, o, 1, 2, 0, 3, 1, 2)
	for _, e := range []edge{{1, 3}, {2, 1}, {3, 2}, {0, 1}, {3, 3}} {
		if o.Remove(e.from, e.to) {
			t.Errorf("P9: Remove(%d, %d) = true, there is no such edge", e.from, e.to)
		}
	}
	checkCycle(t, o, 2, 3, 3, 1, 2)
	if !o.Remove(3, 1) || o.Remove(3, 1) {
		t.Error("P9: Remove(3, 1) is not true once")
	}
	checkRow(t, o, 0, 3, 1, 2)
	checkAdd(t, o, 2, 3, 0, 1, 2, 3)
	checkCycle(t, o, 3, 1, 1, 2, 3)
}

// Every row of calls on three nodes, four calls long.
func TestTopoOnEveryRowOfCalls(t *testing.T) {
	const calls = 18 // Add and Remove of 3 * 3 pairs
	for number := range calls * calls * calls * calls {
		p := newPair(t, 3)
		for rest := number; rest > 0; rest /= calls {
			x, y := rest%9/3, rest%3
			if rest%calls < 9 {
				p.add(x, y)
			} else {
				p.remove(x, y)
			}
		}
	}
}

func TestTopoOnDrawnCalls(t *testing.T) {
	draw := rand.New(rand.NewSource(8))
	for round := range 300 {
		n := draw.Intn(14)
		if round%30 == 0 {
			n = 40
		}
		p := newPair(t, n)
		for range 10 + 4*n {
			p.drawCall(draw, n)
		}
	}
}

// twin is an order with the model's row and edges that came about another way.
func (p pair) twin(draw *rand.Rand) *pinset.Topo {
	o := newTopo(p.t, len(p.model.row))
	for i := 1; i < len(p.model.row); i++ {
		o.Add(p.model.row[i-1], p.model.row[i])
	}
	for i := 1; i < len(p.model.row); i++ {
		o.Remove(p.model.row[i-1], p.model.row[i])
	}
	all := p.model.sortedEdges()
	draw.Shuffle(len(all), func(i, j int) { all[i], all[j] = all[j], all[i] })
	for _, e := range all {
		o.Add(e.from, e.to)
	}
	checkRow(p.t, o, p.model.row...)
	return o
}

func TestWayHangsOnEdgesAndOrderAlone(t *testing.T) {
	draw := rand.New(rand.NewSource(9))
	for range 100 {
		n := 2 + draw.Intn(10)
		p := newPair(t, n)
		for range 8 * n {
			p.drawCall(draw, n)
		}
		twin := p.twin(draw)
		for _, c := range p.model.sortedEdges() {
			for x := range p.model.reach(c.from) {
				_, way := p.topo.Add(x, c.from)
				_, again := p.topo.Add(x, c.from)
				_, other := twin.Add(x, c.from)
				if !p.model.isWay(way, c.from, x) || !slices.Equal(way, again) || !slices.Equal(way, other) {
					t.Fatalf("P8: Add(%d, %d) at %v with %v tells %v, then %v, and %v on another order like it", x, c.from, p.model.row, p.model.sortedEdges(), way, again, other)
				}
			}
		}
	}
}

func TestTopoListsAreNew(t *testing.T) {
	o := newTopo(t, 4)
	checkAdd(t, o, 3, 1, 0, 3, 2, 1)
	checkAdd(t, o, 1, 2, 0, 3, 1, 2)
	kept, row := o.Order(), o.Order()
	_, keptWay := o.Add(2, 3)
	_, way := o.Add(2, 3)
	overwrite(row, 77)
	overwrite(way, 77)
	if !slices.Equal(kept, []int{0, 3, 1, 2}) || !slices.Equal(keptWay, []int{3, 1, 2}) {
		t.Errorf("P2: writing into what came out changed what came out ahead: %v, %v", kept, keptWay)
	}
	checkRow(t, o, 0, 3, 1, 2)
	checkCycle(t, o, 2, 3, 3, 1, 2)
	checkAdd(t, o, 2, 0, 3, 1, 2, 0)
	if !slices.Equal(kept, []int{0, 3, 1, 2}) {
		t.Errorf("P2: Add changed what came out ahead: %v", kept)
	}
}

func TestToposHaveNothingInCommon(t *testing.T) {
	a, b := newTopo(t, 4), newTopo(t, 4)
	checkAdd(t, a, 3, 1, 0, 3, 2, 1)
	checkRow(t, b, 0, 1, 2, 3)
	if b.Remove(3, 1) {
		t.Error("P2: an edge of one order is in another")
	}
	checkAdd(t, b, 1, 3, 0, 1, 2, 3)
	checkCycle(t, a, 1, 3, 3, 1)
	checkRow(t, newTopo(t, 4), 0, 1, 2, 3)
}

func TestToposAtTheSameTime(t *testing.T) {
	var all sync.WaitGroup
	for seed := range int64(8) {
		all.Go(func() {
			draw := rand.New(rand.NewSource(seed))
			o, _ := pinset.NewTopo(9)
			m := newRowModel(9)
			for range 300 {
				x, y := draw.Intn(9), draw.Intn(9)
				if draw.Intn(3) == 0 {
					o.Remove(x, y)
					m.remove(x, y)
				} else {
					o.Add(x, y)
					m.add(x, y)
				}
				if !slices.Equal(o.Order(), m.row) {
					t.Error("P2: an order changed under calls on others at the same time")
					return
				}
			}
		})
	}
	all.Wait()
}

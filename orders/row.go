// Package orders: nodes that stand in a row while edges between them come and go.
package orders

import "pinset/api"

// set says of each node whether it is in.
type set [api.MaxPlaces]bool

// Row is nodes as they stand. From each of them edges lead to later ones
// alone, so one walk along the row finds all that edges lead to.
// It is made of arrays, so that no two rows can have memory in common.
type Row struct {
	count int
	at    [api.MaxPlaces]int // which node stands at a place
	place [api.MaxPlaces]int // at which place a node stands
	edges [api.MaxPlaces]set // to which nodes edges lead from a node
}

// NewRow is count nodes, 0 to MaxPlaces, without edges, in order of their numbers.
func NewRow(count int) Row {
	r := Row{count: count}
	for node := range count {
		r.put(node, node)
	}
	return r
}

// Nodes tells the nodes as they stand.
func (r *Row) Nodes() []int {
	return append([]int{}, r.at[:r.count]...)
}

// Add puts an edge from x to y in, and moves nodes if x stands behind y.
// If edges lead from y to x it tells such a way, and changes nothing.
func (r *Row) Add(x, y int) (api.Errno, []int) {
	if !r.has(x) || !r.has(y) {
		return api.ErrArg, nil
	}
	if first, last := r.place[y], r.place[x]; first <= last {
		sources := r.sources(x, first)
		if sources[y] {
			return api.ErrCycle, r.way(y, x, sources)
		}
		r.move(sources, r.targets(y, last), first, last)
	}
	r.edges[x][y] = true
	return api.OK, nil
}

// Remove takes the edge from x to y out, and tells whether there was one.
func (r *Row) Remove(x, y int) bool {
	if !r.has(x) || !r.has(y) || !r.edges[x][y] {
		return false
	}
	r.edges[x][y] = false
	return true
}

func (r *Row) has(node int) bool { return 0 <= node && node < r.count }

func (r *Row) put(node, place int) {
	r.at[place], r.place[node] = node, place
}

// sources is x and all nodes from the place first on from which edges lead to x.
func (r *Row) sources(x, first int) set {
	var found set
	found[x] = true
	for p := r.place[x] - 1; p >= first; p-- {
		for next, leads := range r.edges[r.at[p]] {
			if leads && found[next] {
				found[r.at[p]] = true
			}
		}
	}
	return found
}

// targets is y and all nodes ahead of the place end to which edges lead from y.
func (r *Row) targets(y, end int) set {
	var found set
	found[y] = true
	for p := r.place[y]; p < end; p++ {
		if !found[r.at[p]] {
			continue
		}
		for next, leads := range r.edges[r.at[p]] {
			if leads && r.place[next] < end {
				found[next] = true
			}
		}
	}
	return found
}

// way is nodes from y to x, each with an edge to the next. Of those that lead
// on to x the one that stands last is taken, which keeps the way short and
// makes it hang on the edges and the row alone.
func (r *Row) way(y, x int, sources set) []int {
	nodes := []int{y}
	for node := y; node != x; nodes = append(nodes, node) {
		p := r.place[x]
		for !r.edges[node][r.at[p]] || !sources[r.at[p]] {
			p--
		}
		node = r.at[p]
	}
	return nodes
}

// move gives the places that both sets have from first to last to the nodes
// of front and then to those of back, each in the order in which they stand.
func (r *Row) move(front, back set, first, last int) {
	var places, ahead, behind []int
	for p := first; p <= last; p++ {
		switch node := r.at[p]; {
		case front[node]:
			ahead = append(ahead, node)
		case back[node]:
			behind = append(behind, node)
		default:
			continue
		}
		places = append(places, p)
	}
	for i, node := range append(ahead, behind...) {
		r.put(node, places[i])
	}
}

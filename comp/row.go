package comp

import "container/heap"

// row puts components in order. They are numbered by their least nodes: of those that are free the least number comes next.
type row struct {
	edges [][]int
	of    []int // by node: the number of its component
	parts []part
	free  numbers
}

// part is a component on its way to its place. It waits for one other at a time: so no edge is kept in memory.
type part struct {
	nodes  []int
	at     int   // the node whose edges are asked, by its place among nodes
	gone   int   // how many of that node's edges need not be asked any more
	behind []int // the components that wait for this one
	placed bool
}

// inOrder answers so many components in order; of has them by any numbers.
func inOrder(edges [][]int, of []int, count int) [][]int {
	r := &row{edges: edges, of: make([]int, len(of)), parts: make([]part, 0, count)}
	r.number(of, count)
	for c := range r.parts {
		r.ask(c)
	}
	l := make([][]int, 0, count)
	for r.free.Len() > 0 {
		c := heap.Pop(&r.free).(int)
		p := &r.parts[c]
		p.placed = true
		l = append(l, p.nodes)
		for _, d := range p.behind {
			r.ask(d)
		}
		p.behind = nil
	}
	return l
}

// number makes the components of their nodes, by their least ones.
func (r *row) number(of []int, count int) {
	sizes := make([]int, count)
	for _, c := range of {
		sizes[c]++
	}
	made := make([]int, count) // as which one, from 1 on; 0: not yet
	for i, c := range of {
		if made[c] == 0 {
			r.parts = append(r.parts, part{nodes: make([]int, 0, sizes[c])})
			made[c] = len(r.parts)
		}
		r.of[i] = made[c] - 1
		p := &r.parts[r.of[i]]
		p.nodes = append(p.nodes, i)
	}
}

// ask makes c free, or lets it wait.
func (r *row) ask(c int) {
	if d, ok := r.waits(c); ok {
		r.parts[d].behind = append(r.parts[d].behind, c)
		return
	}
	heap.Push(&r.free, c)
}

// waits answers a component that has no place yet and that c has an edge to.
func (r *row) waits(c int) (int, bool) {
	p := &r.parts[c]
	for ; p.at < len(p.nodes); p.at++ {
		out := r.edges[p.nodes[p.at]]
		for ; p.gone < len(out); p.gone++ {
			if !there(r.edges, out[p.gone]) {
				continue
			}
			if d := r.of[out[p.gone]]; d != c && !r.parts[d].placed {
				return d, true
			}
		}
		p.gone = 0
	}
	return 0, false
}

// numbers is a heap.
type numbers []int

func (h numbers) Len() int           { return len(h) }
func (h numbers) Less(i, j int) bool { return h[i] < h[j] }
func (h numbers) Swap(i, j int)      { h[i], h[j] = h[j], h[i] }
func (h *numbers) Push(x any)        { *h = append(*h, x.(int)) }

func (h *numbers) Pop() any {
	last := len(*h) - 1
	x := (*h)[last]
	*h = (*h)[:last]
	return x
}

package comp_test

import (
	"runtime/debug"
	"slices"
	"testing"

	"stonecrop/comp"
)

// P18.1: the example of the document.
func TestExample(t *testing.T) {
	wantComps(t, [][]int{{1}, {0}, {0}}, []int{0, 1}, []int{2})
}

// P18.1: graphs without nodes, of one node, and without edges.
func TestFew(t *testing.T) {
	wantComps(t, nil)
	wantComps(t, [][]int{})
	wantComps(t, [][]int{nil}, []int{0})
	wantComps(t, [][]int{{}}, []int{0})
	wantComps(t, [][]int{{0}}, []int{0})
	wantComps(t, [][]int{{0, 0, 0}}, []int{0})
	wantComps(t, [][]int{nil, {}, nil}, []int{0}, []int{1}, []int{2})
	wantComps(t, [][]int{{1}, nil}, []int{1}, []int{0})
	wantComps(t, [][]int{nil, {0}}, []int{0}, []int{1})
	wantComps(t, [][]int{{1}, {0}}, []int{0, 1})
	wantComps(t, make([][]int, 1000), single(upTo(1000))...)
}

// P18.1: Leads of graphs of few nodes, and from no node.
func TestLeadsOfFew(t *testing.T) {
	for _, from := range append(no(0), 0, 1) {
		wantLeads(t, nil, from)
		wantLeads(t, [][]int{}, from)
	}
	for _, edges := range [][][]int{{nil}, {{}}, {{0}}, {{0, 0}}, {{1, -1, 0}}} {
		wantLeads(t, edges, 0, 0)
		for _, from := range no(1) {
			wantLeads(t, edges, from)
		}
	}
	edges := [][]int{{1}, {2, 0}, {}, {1}, nil, {5, 4}, {6}}
	wantLeads(t, edges, 0, 0, 1, 2)
	wantLeads(t, edges, 1, 0, 1, 2)
	wantLeads(t, edges, 2, 2)
	wantLeads(t, edges, 3, 0, 1, 2, 3)
	wantLeads(t, edges, 4, 4)
	wantLeads(t, edges, 5, 4, 5)
	wantLeads(t, edges, 6, 6)
	for _, from := range no(7) {
		wantLeads(t, edges, from)
	}
}

// P18.1: nodes that there are and that nothing leads to or from aren't led to, also where the number is another's edge.
func TestLeadsNoFurther(t *testing.T) {
	edges := [][]int{{3}, {0}, {1}, {4}, {3}, {0, 6}, {}}
	wantLeads(t, edges, 0, 0, 3, 4)
	wantLeads(t, edges, 1, 0, 1, 3, 4)
	wantLeads(t, edges, 2, 0, 1, 2, 3, 4)
	wantLeads(t, edges, 5, 0, 3, 4, 5, 6)
	wantLeads(t, edges, 6, 6)
}

// P18.1: an edge that comes more than once is one, in whatever order edges come, and so is one to oneself.
func TestEdgesTwice(t *testing.T) {
	wantComps(t, [][]int{{1, 1, 0, 1}, {2, 2}, {1, 2, 1}}, []int{1, 2}, []int{0})
	wantComps(t, [][]int{{2, 1}, {1}, {2}, {3, 3}}, []int{1}, []int{2}, []int{0}, []int{3})
	wantLeads(t, [][]int{{1, 1, 0, 1}, {2, 2}, {1, 2, 1}}, 0, 0, 1, 2)
	edges := [][]int{{4}, {3, 0}, {}, {1, 2}, {5, 4}, {4}}
	wanted := [][]int{{2}, {4, 5}, {0}, {1, 3}}
	wantComps(t, edges, wanted...)
	for i := range edges {
		more := slices.Clone(edges)
		more[i] = slices.Concat(edges[i], []int{i}, backward(edges[i]), []int{i, i}, edges[i])
		wantComps(t, more, wanted...)
		more[i] = backward(more[i])
		wantComps(t, more, wanted...)
		for from := range edges {
			wantLeads(t, more, from, comp.Leads(edges, from)...)
		}
	}
}

// P18.1: edges to nodes that there aren't count for nothing, neither for the components nor for their order.
func TestNoSuchNode(t *testing.T) {
	edges := [][]int{{2}, {}, {0, 3}, {1}, {5}, {6}, {4}, {1, 6}}
	wanted := [][]int{{1}, {3}, {0, 2}, {4, 5, 6}, {7}}
	wantComps(t, edges, wanted...)
	for i := range edges {
		for _, j := range no(len(edges)) {
			for _, out := range [][]int{append([]int{j}, edges[i]...), append(slices.Clone(edges[i]), j), {j, j}} {
				more := slices.Clone(edges)
				more[i] = out
				wantPlain(t, more)
			}
		}
		more := slices.Clone(edges)
		more[i] = slices.Concat(no(len(edges)), edges[i], no(len(edges)))
		wantComps(t, more, wanted...)
		for from := range edges {
			wantLeads(t, more, from, comp.Leads(edges, from)...)
		}
	}
	wantComps(t, [][]int{no(2), no(2)}, []int{0}, []int{1})
	wantComps(t, [][]int{no(1)}, []int{0})
}

// P18.1: rings and rows, forward and backward, and rings that hang on rings.
func TestRingsAndRows(t *testing.T) {
	for _, count := range []int{1, 2, 3, 4, 10, 100} {
		wantComps(t, row(count), single(backward(upTo(count)))...)
		wantComps(t, turned(row(count)), single(upTo(count))...)
		wantComps(t, ring(count), upTo(count))
		wantComps(t, turned(ring(count)), upTo(count))
		for from := range count {
			wantLeads(t, row(count), from, upTo(count)[from:]...)
			wantLeads(t, turned(row(count)), from, upTo(from+1)...)
			wantLeads(t, ring(count), from, upTo(count)...)
			wantLeads(t, turned(ring(count)), from, upTo(count)...)
		}
	}
	rings := [][]int{{2}, {3}, {4, 1}, {5}, {0}, {1}, {7, 4}, {8}, {6}}
	wantComps(t, rings, []int{1, 3, 5}, []int{0, 2, 4}, []int{6, 7, 8})
	wantComps(t, turned(rings), []int{6, 7, 8}, []int{0, 2, 4}, []int{1, 3, 5})
	wantLeads(t, rings, 2, 0, 1, 2, 3, 4, 5)
	wantLeads(t, rings, 5, 1, 3, 5)
	wantLeads(t, rings, 8, upTo(9)...)
}

// P18.1: two graphs side by side, a node that all lead to, and one that leads to all.
func TestSideBySide(t *testing.T) {
	wantComps(t, [][]int{{2}, {3}, {0}, {1}}, []int{0, 2}, []int{1, 3})
	wantComps(t, [][]int{{3}, {2}, {1}, {0}}, []int{0, 3}, []int{1, 2})
	wantComps(t, [][]int{{2}, {3}, {4}, {5}, {}, {}}, []int{4}, []int{2}, []int{0}, []int{5}, []int{3}, []int{1})
	wantLeads(t, [][]int{{2}, {3}, {4}, {5}, {}, {}}, 0, 0, 2, 4)
	for _, count := range []int{2, 3, 50} {
		for middle := range count {
			to, of := make([][]int, count), make([][]int, count)
			for i := range count {
				to[i] = []int{middle}
			}
			of[middle] = upTo(count)
			others := slices.Delete(upTo(count), middle, middle+1)
			wantComps(t, to, single(append([]int{middle}, others...))...)
			wantComps(t, of, single(append(slices.Clone(others), middle))...)
			wantLeads(t, of, middle, upTo(count)...)
			wantLeads(t, to, middle, middle)
			wantLeads(t, to, others[0], min(others[0], middle), max(others[0], middle))
		}
	}
}

// P18.1: of those that may come next always the one with the least node comes, also if it became free last.
func TestOrder(t *testing.T) {
	// 0 is free behind 9, and comes ahead of 1 to 8, which were free all the time, as soon as it may.
	wantComps(t, [][]int{{9}, {}, {}, {}, {}, {}, {}, {}, {}, {}}, single([]int{1, 2, 3, 4, 5, 6, 7, 8, 9, 0})...)
	wantComps(t, [][]int{{3}, {}, {}, {}, {}, {0}}, single([]int{1, 2, 3, 0, 4, 5})...)
	wantComps(t, [][]int{{1}, {3}, {}, {}, {}}, single([]int{2, 3, 1, 0, 4})...)
	wantComps(t, [][]int{{5}, {4}, {5}, {}, {}, {}}, single([]int{3, 4, 1, 5, 0, 2})...)
	// What hangs on several comes behind the last of them.
	wantComps(t, [][]int{{2, 5}, {}, {}, {}, {}, {}, {}}, single([]int{1, 2, 3, 4, 5, 0, 6})...)
	wantComps(t, [][]int{{5, 2}, {}, {}, {}, {}, {}, {}}, single([]int{1, 2, 3, 4, 5, 0, 6})...)
	wantComps(t, [][]int{{3, 1, 2}, {0, 4}, {}, {}, {}}, []int{2}, []int{3}, []int{4}, []int{0, 1})
	// A component stands by its least node, and not by the one that others lead to first.
	wantComps(t, [][]int{{7}, {}, {3}, {8}, {}, {}, {}, {}, {2}}, []int{1}, []int{2, 3, 8}, []int{4}, []int{5}, []int{6}, []int{7}, []int{0})
	wantComps(t, [][]int{{4}, {3}, {}, {1}, {3, 5}, {4}}, []int{1, 3}, []int{2}, []int{4, 5}, []int{0})
	wantComps(t, [][]int{{4}, {}, {4}, {}, {2}}, []int{1}, []int{2, 4}, []int{0}, []int{3})
	wantComps(t, [][]int{{5}, {2}, {1}, {4}, {3}, {4}}, []int{1, 2}, []int{3, 4}, []int{5}, []int{0})
	wantComps(t, [][]int{{5}, {4}, {3}, {2}, {1}, {6}, {5}}, []int{1, 4}, []int{2, 3}, []int{5, 6}, []int{0})
}

// P18.1: the same graph by other numbers has the same components, in an order that those numbers tell.
func TestOtherNumbers(t *testing.T) {
	edges := [][]int{{1}, {2, 0}, {3}, {4, 3}, {3}, {0}}
	for _, names := range orders(6) {
		wantPlain(t, named(edges, names))
	}
}

// orders are all orders of the numbers below count.
func orders(count int) [][]int {
	if count == 0 {
		return [][]int{nil}
	}
	var all [][]int
	for _, l := range orders(count - 1) {
		for at := range count {
			all = append(all, slices.Insert(slices.Clone(l), at, count-1))
		}
	}
	return all
}

// P18.1, P18.2: all graphs of up to four nodes.
func TestAllSmallGraphs(t *testing.T) {
	for count := range 5 {
		for drawn := range 1 << (count * count) {
			edges := make([][]int, count)
			for i := range count {
				for j := range count {
					if drawn>>(i*count+j)&1 == 1 {
						edges[i] = append(edges[i], j)
					}
				}
			}
			p := read(edges)
			wantComps(t, edges, p.comps()...)
			for i := range count {
				wantLeads(t, edges, i, p.from(i)...)
			}
		}
	}
}

// small lets no call go deep while f runs: what goes into itself for each node ends there.
func small(f func()) {
	defer debug.SetMaxStack(debug.SetMaxStack(1 << 18))
	f()
}

// P18.2: rows and rings of great depth, in whatever direction.
func TestDepth(t *testing.T) {
	const count = 300000
	all, back := upTo(count), backward(upTo(count))
	small(func() {
		wantComps(t, row(count), single(back)...)
		wantComps(t, turned(row(count)), single(all)...)
		wantComps(t, ring(count), all)
		wantComps(t, turned(ring(count)), all)
		wantLeads(t, row(count), 0, all...)
		wantLeads(t, row(count), count-1, count-1)
		wantLeads(t, turned(row(count)), count-1, all...)
		wantLeads(t, turned(row(count)), 5, 0, 1, 2, 3, 4, 5)
		wantLeads(t, ring(count), 7, all...)
		wantLeads(t, turned(ring(count)), 7, all...)
	})
}

// P18.2: rows of rings, of great depth: each ring hangs on the one behind it, or on the one ahead.
func TestDepthOfRings(t *testing.T) {
	const count = 60000
	edges := make([][]int, 3*count)
	var wanted [][]int
	for k := range count {
		edges[3*k] = []int{3*k + 1}
		edges[3*k+1] = []int{3*k + 1, 3*k + 2, 3*k + 4}
		edges[3*k+2] = []int{3 * k}
		wanted = append(wanted, []int{3 * k, 3*k + 1, 3*k + 2})
	}
	forward := slices.Clone(wanted)
	slices.Reverse(wanted)
	small(func() {
		wantComps(t, edges, wanted...)
		edges[3*count-2] = []int{3*count - 1}
		wantComps(t, turned(edges), forward...)
		wantLeads(t, edges, 3, upTo(3 * count)[3:]...)
		wantLeads(t, turned(edges), 5, 0, 1, 2, 3, 4, 5)
	})
}

// P18.1, P18.2: graphs of many edges: each node to each, to all ahead of it, or to all behind it.
func TestManyEdges(t *testing.T) {
	const count = 2500
	all := upTo(count)
	full, ahead, behind := make([][]int, count), make([][]int, count), make([][]int, count)
	for i := range count {
		full[i], ahead[i], behind[i] = all, all[:i], all[i:]
	}
	wantComps(t, full, all)
	wantComps(t, ahead, single(all)...)
	wantComps(t, behind, single(backward(all))...)
	wantLeads(t, full, 77, all...)
	wantLeads(t, ahead, 77, all[:78]...)
	wantLeads(t, behind, 77, all[77:]...)
	want(t, "what was handed in", slices.Equal(all, upTo(count)), true)
}

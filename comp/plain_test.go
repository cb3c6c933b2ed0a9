package comp_test

import (
	"fmt"
	"math"
	"slices"
	"testing"

	"stonecrop/comp"
)

const (
	most  = math.MaxInt
	least = math.MinInt
)

func show(x any) string { return fmt.Sprintf("%.600s", fmt.Sprint(x)) }

func want[T comparable](t *testing.T, what string, got, want T) {
	t.Helper()
	if got != want {
		t.Fatalf("%s: %#v, want %#v", what, got, want)
	}
}

func wantComps(t *testing.T, edges [][]int, wanted ...[]int) {
	t.Helper()
	got := comp.Comps(edges)
	if !slices.EqualFunc(got, wanted, slices.Equal[[]int]) {
		t.Fatalf("Comps(%s): %s, want %s", show(edges), show(got), show(wanted))
	}
}

func wantLeads(t *testing.T, edges [][]int, from int, wanted ...int) {
	t.Helper()
	if got := comp.Leads(edges, from); !slices.Equal(got, wanted) {
		t.Fatalf("Leads(%s, %d): %s, want %s", show(edges), from, show(got), show(wanted))
	}
}

// no are numbers of which there is no node in a graph of so many.
func no(count int) []int {
	return []int{-1, -2, -count, -count - 1, count, count + 1, 2 * count, 1 << 31, 1 << 32, 1<<32 + 1, -1 << 32, 1 << 40, most - 1, most, least, least + 1}
}

// upTo are the numbers from 0 to count - 1.
func upTo(count int) []int {
	l := make([]int, count)
	for i := range l {
		l[i] = i
	}
	return l
}

// row is a graph whose nodes lead each to the next one, and ring one whose last leads to the first, too.
func row(count int) [][]int {
	edges := make([][]int, count)
	for i := range count - 1 {
		edges[i] = []int{i + 1}
	}
	return edges
}

func ring(count int) [][]int {
	edges := row(count)
	edges[count-1] = []int{0}
	return edges
}

// turned is the graph whose edges go the other way.
func turned(edges [][]int) [][]int {
	l := make([][]int, len(edges))
	for i, out := range edges {
		for _, j := range out {
			l[j] = append(l[j], i)
		}
	}
	return l
}

// named is the graph whose node i has the number names[i].
func named(edges [][]int, names []int) [][]int {
	l := make([][]int, len(edges))
	for i, out := range edges {
		for _, j := range out {
			l[names[i]] = append(l[names[i]], names[j])
		}
	}
	return l
}

func single(l []int) [][]int {
	var each [][]int
	for _, i := range l {
		each = append(each, []int{i})
	}
	return each
}

func backward(l []int) []int {
	l = slices.Clone(l)
	slices.Reverse(l)
	return l
}

// plain is the chapter once more, by other means: a table of who leads to whom, which is filled till nothing is new.
type plain struct {
	edges [][]int
	leads [][]bool
}

func read(edges [][]int) *plain {
	p := &plain{edges, make([][]bool, len(edges))}
	for i, out := range edges {
		p.leads[i] = make([]bool, len(edges))
		p.leads[i][i] = true
		for _, j := range out {
			if 0 <= j && j < len(edges) {
				p.leads[i][j] = true
			}
		}
	}
	for middle := range edges {
		for i := range edges {
			if !p.leads[i][middle] {
				continue
			}
			for j := range edges {
				p.leads[i][j] = p.leads[i][j] || p.leads[middle][j]
			}
		}
	}
	return p
}

func (p *plain) from(i int) []int {
	var l []int
	for j := range p.edges {
		if i >= 0 && i < len(p.edges) && p.leads[i][j] {
			l = append(l, j)
		}
	}
	return l
}

// with are the nodes of i's component.
func (p *plain) with(i int) []int {
	var l []int
	for j := range p.edges {
		if p.leads[i][j] && p.leads[j][i] {
			l = append(l, j)
		}
	}
	return l
}

// comps asks, for each place anew, all nodes from the least one on whether their component may come.
func (p *plain) comps() [][]int {
	var l [][]int
	come := make([]bool, len(p.edges))
	for {
		next := slices.IndexFunc(upTo(len(p.edges)), func(i int) bool { return !come[i] && p.may(i, come) })
		if next < 0 {
			return l
		}
		l = append(l, p.with(next))
		for _, i := range p.with(next) {
			come[i] = true
		}
	}
}

func (p *plain) may(i int, come []bool) bool {
	for j := range p.edges {
		if p.leads[i][j] && !p.leads[j][i] && !come[j] {
			return false
		}
	}
	return true
}

// wantPlain is that comp answers what the chapter says of a graph, from each node.
func wantPlain(t *testing.T, edges [][]int) {
	t.Helper()
	p := read(edges)
	wantComps(t, edges, p.comps()...)
	for i := range edges {
		wantLeads(t, edges, i, p.from(i)...)
	}
	for _, i := range no(len(edges)) {
		wantLeads(t, edges, i, p.from(i)...)
	}
}

package comp_test

import (
	"math/rand"
	"slices"
	"testing"

	"stonecrop/comp"
)

// drawn is a graph of so many nodes and edges, some of them to nodes that there aren't.
func drawn(r *rand.Rand, count, edges int) [][]int {
	l := make([][]int, count)
	for range edges {
		i, j := r.Intn(count), r.Intn(count)
		if r.Intn(12) == 0 {
			j = no(count)[r.Intn(len(no(count)))]
		}
		l[i] = append(l[i], j)
	}
	return l
}

// P18.1, P18.2: drawn graphs, of few edges to many.
func TestDrawn(t *testing.T) {
	r := rand.New(rand.NewSource(18))
	for range 6000 {
		count := 1 + r.Intn(12)
		wantPlain(t, drawn(r, count, r.Intn(3*count)))
	}
	for range 300 {
		count := 20 + r.Intn(60)
		wantPlain(t, drawn(r, count, r.Intn(2*count)))
	}
}

// P18.1: a graph that grows and shrinks edge by edge.
func TestEdgeByEdge(t *testing.T) {
	r := rand.New(rand.NewSource(81))
	for range 40 {
		edges := make([][]int, 2+r.Intn(14))
		for range 150 {
			i := r.Intn(len(edges))
			if len(edges[i]) > 0 && r.Intn(3) == 0 {
				edges[i] = slices.Delete(edges[i], 0, 1)
			} else {
				edges[i] = append(edges[i], r.Intn(len(edges)))
			}
			p := read(edges)
			wantComps(t, edges, p.comps()...)
			wantLeads(t, edges, i, p.from(i)...)
		}
	}
}

// planted is a graph that is made of its components: each is a ring with edges across, and hangs on some that were made ahead of it.
type planted struct {
	edges [][]int
	of    []int
	comps [][]int
}

func plant(r *rand.Rand, count, greatest, hang int) *planted {
	p := &planted{edges: make([][]int, count), of: make([]int, count)}
	names := r.Perm(count)
	for at := 0; at < count; {
		size := min(1+r.Intn(greatest), count-at)
		nodes := names[at : at+size]
		for k, i := range nodes {
			p.of[i] = len(p.comps)
			if size > 1 {
				p.edges[i] = append(p.edges[i], nodes[(k+1)%size], nodes[r.Intn(size)])
			}
			for range r.Intn(hang + 1) {
				if at > 0 {
					p.edges[i] = append(p.edges[i], names[r.Intn(at)])
				}
			}
			r.Shuffle(len(p.edges[i]), func(a, b int) { p.edges[i][a], p.edges[i][b] = p.edges[i][b], p.edges[i][a] })
		}
		p.comps = append(p.comps, slices.Sorted(slices.Values(nodes)))
		at += size
	}
	return p
}

// row is the order of the components, told by how many each still hangs on: all are asked for each place.
func (p *planted) row() [][]int {
	left := make([]int, len(p.comps))
	behind := make([][]int, len(p.comps))
	for i, out := range p.edges {
		for _, j := range out {
			if p.of[i] != p.of[j] {
				left[p.of[i]]++
				behind[p.of[j]] = append(behind[p.of[j]], p.of[i])
			}
		}
	}
	byLeast := upTo(len(p.comps))
	slices.SortFunc(byLeast, func(a, b int) int { return p.comps[a][0] - p.comps[b][0] })
	var l [][]int
	for len(byLeast) > 0 {
		at := slices.IndexFunc(byLeast, func(c int) bool { return left[c] == 0 })
		c := byLeast[at]
		byLeast = slices.Delete(byLeast, at, at+1)
		l = append(l, p.comps[c])
		for _, d := range behind[c] {
			left[d]--
		}
	}
	return l
}

// P18.1, P18.2: great graphs, of which the components are known ahead.
func TestPlanted(t *testing.T) {
	r := rand.New(rand.NewSource(1818))
	for _, x := range []struct{ count, greatest, hang int }{
		{2000, 1, 1}, {2000, 1, 4}, {2000, 3, 1}, {2000, 40, 1}, {2000, 1999, 2}, {20000, 5, 0}, {20000, 9, 1}, {20000, 30, 3}, {20000, 4000, 1},
	} {
		p := plant(r, x.count, x.greatest, x.hang)
		small(func() { wantComps(t, p.edges, p.row()...) })
		for range 5 {
			from := r.Intn(x.count)
			wantLeads(t, p.edges, from, p.led(from)...)
		}
	}
}

// led are the nodes that one leads to, told by rounds over all nodes till nothing is new.
func (p *planted) led(from int) []int {
	in := map[int]bool{from: true}
	for before := 0; before < len(in); {
		before = len(in)
		for i := range p.edges {
			for _, j := range p.edges[i] {
				if in[i] {
					in[j] = true
				}
			}
		}
	}
	var l []int
	for i := range p.edges {
		if in[i] {
			l = append(l, i)
		}
	}
	return l
}

// P18.2: each node of any graph is in one component, and in it are those alone that lead to one another.
func TestEachNodeOnce(t *testing.T) {
	r := rand.New(rand.NewSource(182))
	for range 100 {
		edges := drawn(r, 300, 250+r.Intn(150))
		var all []int
		for _, nodes := range comp.Comps(edges) {
			want(t, "rising", slices.IsSorted(nodes), true)
			all = append(all, nodes...)
			for _, i := range nodes {
				led := comp.Leads(edges, i)
				want(t, "the same are led to", show(led), show(comp.Leads(edges, nodes[0])))
			}
		}
		slices.Sort(all)
		want(t, "all nodes", show(all), show(upTo(300)))
	}
}

// P18.1, P18.2, P1: any graph that bytes tell.
func FuzzCalls(f *testing.F) {
	f.Add([]byte{3, 1, 0, 0, 1, 2, 0})
	f.Add([]byte{9, 1, 2, 2, 1, 3, 3, 3, 1, 8, 9, 9, 200})
	f.Fuzz(func(t *testing.T, b []byte) {
		if len(b) == 0 || len(b) > 200 {
			return
		}
		edges := make([][]int, b[0]%24)
		for k := 1; k+1 < len(b) && len(edges) > 0; k += 2 {
			i, j := int(b[k])%len(edges), int(b[k+1])
			if b[k+1] >= 32 {
				j = no(len(edges))[int(b[k+1])%len(no(len(edges)))]
			}
			edges[i] = append(edges[i], j)
		}
		given := roomy(edges)
		before := image(given)
		wantPlain(t, given)
		want(t, "what was handed in", image(given), before)
	})
}

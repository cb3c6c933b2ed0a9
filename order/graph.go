package order

import (
	"stonecrop/api"
	"stonecrop/ids"
)

// graph has records as nodes, in the order of their Ids: so the order in which they are handed in tells nothing.
type graph struct {
	nodes  []*api.Rec
	places map[api.Id]int // by Id: its place among nodes
}

// number makes the graph of l. It has fewer nodes than l, if two have one Id.
func number(l []api.Rec) *graph {
	names := make([]api.Id, 0, len(l))
	for _, r := range l {
		names = append(names, r.Id)
	}
	names = ids.Set(names)
	g := &graph{nodes: make([]*api.Rec, len(names)), places: make(map[api.Id]int, len(names))}
	for place, i := range names {
		g.places[i] = place
	}
	for at := range l {
		g.nodes[g.places[l[at].Id]] = &l[at]
	}
	return g
}

// edges answers where the Deps of each node are, and those of them that are none.
func (g *graph) edges() (edges [][]int, lacks [][]api.Id) {
	edges, lacks = make([][]int, len(g.nodes)), make([][]api.Id, len(g.nodes))
	for place, r := range g.nodes {
		edges[place] = make([]int, 0, len(r.Attr.Deps))
		for _, i := range r.Attr.Deps {
			if to, ok := g.places[i]; ok {
				edges[place] = append(edges[place], to)
			} else {
				lacks[place] = append(lacks[place], i)
			}
		}
	}
	return edges, lacks
}

// records answers those that are at places.
func (g *graph) records(places []int) []api.Rec {
	l := make([]api.Rec, 0, len(places))
	for _, place := range places {
		l = append(l, *g.nodes[place])
	}
	return l
}

package comp_test

import (
	"fmt"
	"slices"
	"testing"

	"stonecrop/comp"
)

// over writes another number over all of a list, and behind it as far as its memory goes.
func over(l []int) {
	l = l[:cap(l)]
	for i := range l {
		l[i] = -77
	}
}

// roomy is the same graph, in memory that has room behind each list and behind all: there are edges in it, too.
func roomy(edges [][]int) [][]int {
	all := make([][]int, 0, len(edges)+3)
	for _, out := range edges {
		l := make([]int, 0, len(out)+4)
		l = append(l, out...)
		copy(l[len(out):cap(l)], []int{0, 1, 2, 3})
		all = append(all, l)
	}
	copy(all[len(edges):cap(all)], [][]int{{0}, {0, 1}, {2}})
	return all
}

// image tells all of a graph's memory.
func image(edges [][]int) string {
	said := fmt.Sprint(len(edges), cap(edges))
	for _, out := range edges[:cap(edges)] {
		said += fmt.Sprint(" ", len(out), cap(out), out[:cap(out)])
	}
	return said
}

func graphs() [][][]int {
	return [][][]int{
		{}, {{}}, {{0}}, {{1}, {0}, {0}}, {{1, 1}, {}, {0, 7, -1}},
		{{4}, {3, 0}, {}, {1, 2}, {5, 4}, {4}},
		{{2}, {3}, {4, 1}, {5}, {0}, {1}, {7, 4}, {8}, {6}},
		row(20), ring(20), turned(row(20)), make([][]int, 12),
	}
}

// P18.2: what is handed in stays as it is, and so does what lies behind it, which isn't read.
func TestHandedInStays(t *testing.T) {
	for _, edges := range graphs() {
		given := roomy(edges)
		before := image(given)
		wantComps(t, given, read(edges).comps()...)
		for from := -2; from < len(edges)+3; from++ {
			wantLeads(t, given, from, read(edges).from(from)...)
		}
		want(t, "what was handed in", image(given), before)
	}
}

// R4: what is answered may be written over: neither the graph nor a later answer changes, nor another list of the answer.
func TestAnswersWrittenOver(t *testing.T) {
	for _, edges := range graphs() {
		given := roomy(edges)
		before := image(given)
		var held [][][]int
		for range 40 {
			held = append(held, comp.Comps(given))
		}
		for _, answer := range held {
			if !slices.EqualFunc(answer, read(edges).comps(), slices.Equal[[]int]) {
				t.Fatalf("an answer for %s became %s", show(edges), show(answer))
			}
			for k := range answer {
				wanted := read(edges).comps()[k:]
				if !slices.EqualFunc(answer[k:], wanted, slices.Equal[[]int]) {
					t.Fatalf("of an answer for %s, %s became %s", show(edges), show(wanted), show(answer[k:]))
				}
				over(append(answer[k], -5))
				over(answer[k])
			}
			clear(answer[:cap(answer)])
		}
		want(t, "what was handed in", image(given), before)
		wantComps(t, given, read(edges).comps()...)
	}
}

// R4: the same of Leads.
func TestLeadsWrittenOver(t *testing.T) {
	for _, edges := range graphs() {
		given := roomy(edges)
		before := image(given)
		for from := range edges {
			var held [][]int
			for range 40 {
				held = append(held, comp.Leads(given, from))
			}
			for _, answer := range held {
				if wanted := read(edges).from(from); !slices.Equal(answer, wanted) {
					t.Fatalf("an answer for %s became %s", show(wanted), show(answer))
				}
				over(append(answer, -5))
				over(answer)
			}
		}
		want(t, "what was handed in", image(given), before)
	}
}

// R4: what was handed in may be written over: what was answered stays.
func TestHandedInWrittenOver(t *testing.T) {
	for _, edges := range graphs() {
		given := roomy(edges)
		answer := comp.Comps(given)
		var led [][]int
		for from := range edges {
			led = append(led, comp.Leads(given, from))
		}
		for _, out := range given[:cap(given)] {
			over(out)
		}
		clear(given[:cap(given)])
		if !slices.EqualFunc(answer, read(edges).comps(), slices.Equal[[]int]) {
			t.Fatalf("the answer for %s became %s", show(edges), show(answer))
		}
		for from := range edges {
			want(t, "what was led to", show(led[from]), show(read(edges).from(from)))
		}
	}
}

// R4: lists that share their memory, or are one, are graphs like others.
func TestSharedLists(t *testing.T) {
	one := []int{2, 0, 1, 2}
	wantComps(t, [][]int{one, one, one}, []int{0, 1, 2})
	wantComps(t, [][]int{one[:1], one[:2], one[2:], one[2:3]}, []int{0, 1, 2}, []int{3})
	wantComps(t, [][]int{one[1:2], one[1:2], one[:1:1], one[1:1]}, []int{0}, []int{1}, []int{2}, []int{3})
	wantLeads(t, [][]int{one[:1], one[2:2], one[2:3], one}, 0, 0, 1, 2)
	want(t, "the list", fmt.Sprint(one), "[2 0 1 2]")
}

// R6: the same graph has the same answers, each time.
func TestSameAnswers(t *testing.T) {
	first := ""
	for round := range 50 {
		said := ""
		for _, edges := range graphs() {
			said += fmt.Sprint(comp.Comps(edges))
			for from := range edges {
				said += fmt.Sprint(comp.Leads(edges, from))
			}
		}
		if round == 0 {
			first = said
		}
		want(t, "what was said", said, first)
	}
}

package index_test

import (
	"fmt"
	"slices"
	"testing"

	"stonecrop/api"
	"stonecrop/index"
)

// asked are commands of all kinds there are, and of some there aren't.
func asked() []api.Cmd {
	l := []api.Cmd{noop, barrier}
	for _, client := range []int{0, 1, 9, -1, most} {
		for _, key := range []string{"", "a", "zz", "\xff"} {
			for _, kind := range kinds() {
				l = append(l, command(kind, client, key))
			}
		}
	}
	return l
}

// P17.1: the document's example.
func TestExample(t *testing.T) {
	x := made(held{id(0, 1), put(1, "a"), 1}, held{id(1, 1), get(2, "b"), 1})
	wantIds(t, "Deps of a get of a", x.Deps(get(3, "a"), id(2, 1)), id(0, 1))
}

// wantEmpty is an index without ids.
func wantEmpty(t *testing.T, x *index.Index) {
	t.Helper()
	want(t, "Len", x.Len(), 0)
	for _, c := range asked() {
		for _, but := range []api.Id{none, {}, id(least, most)} {
			wantMetBut(t, x, c, but, 1)
		}
	}
}

// P17.1: New has no ids; what is dropped from it isn't there either, and two are each by themselves.
func TestNew(t *testing.T) {
	x := index.New()
	wantEmpty(t, x)
	x.Drop(id(0, 0))
	x.Drop(id(3, -4))
	wantEmpty(t, x)
	other := made(held{id(0, 0), put(1, "a"), 5})
	wantEmpty(t, x)
	want(t, "Len of the other", other.Len(), 1)
}

// P17.1: Put of ids that aren't there; each has its own command and number.
func TestPut(t *testing.T) {
	x := index.New()
	x.Put(id(2, 5), put(1, "a"), 4)
	want(t, "Len", x.Len(), 1)
	wantMet(t, x, get(9, "a"), 5, id(2, 5))
	wantMet(t, x, get(9, "b"), 1)
	x.Put(id(1, 5), put(2, "b"), 9)
	want(t, "Len", x.Len(), 2)
	wantMet(t, x, get(9, "a"), 5, id(2, 5))
	wantMet(t, x, get(9, "b"), 10, id(1, 5))
	wantMet(t, x, get(2, "a"), 10, id(1, 5), id(2, 5))
	wantMet(t, x, barrier, 10, id(1, 5), id(2, 5))
	x.Put(id(0, 7), get(3, "a"), 2)
	want(t, "Len", x.Len(), 3)
	wantMet(t, x, put(9, "a"), 5, id(2, 5), id(0, 7))
	wantMet(t, x, get(9, "a"), 5, id(2, 5))
}

// P17.1: ids of one N, and of one R, and whose numbers are each other's, are each by themselves.
func TestPutOfNeighbours(t *testing.T) {
	x := made(held{id(1, 2), put(1, "a"), 1}, held{id(2, 1), put(2, "a"), 2}, held{id(1, 1), put(3, "a"), 3}, held{id(2, 2), put(4, "a"), 4})
	want(t, "Len", x.Len(), 4)
	wantMet(t, x, get(9, "a"), 5, id(1, 1), id(2, 1), id(1, 2), id(2, 2))
	wantMet(t, x, get(2, "q"), 3, id(2, 1))
	x.Drop(id(1, 2))
	wantMet(t, x, get(9, "a"), 5, id(1, 1), id(2, 1), id(2, 2))
	x.Drop(id(2, 2))
	wantMet(t, x, get(9, "a"), 4, id(1, 1), id(2, 1))
}

// P17.1: one id is put anew, with another command or number: it has the last ones alone. Other ids of the same key and client stay.
func TestPutAnew(t *testing.T) {
	olds := []api.Cmd{put(1, "a"), get(1, "a"), remove(1, "a"), cas(1, "a"), find(1, "a"), barrier, noop, command(99, 1, "a"), put(0, ""), put(-1, "a"), command(6, 1, "a"), command(0, 1, "a")}
	news := append(slices.Clone(olds), put(1, "b"), put(2, "a"), put(2, "b"), find(1, ""), find(2, "b"), find(2, "aa"), get(2, "b"), command(99, 2, "b"))
	for _, old := range olds {
		for _, c := range news {
			for _, seq := range []int{0, 3, 20, -5} {
				x := made(held{id(0, 1), put(1, "a"), 2}, held{id(1, 1), old, 7}, held{id(0, 2), find(2, "b"), 5})
				x.Put(id(1, 1), c, seq)
				y := &plain{l: []held{{id(0, 1), put(1, "a"), 2}, {id(1, 1), c, seq}, {id(0, 2), find(2, "b"), 5}}}
				wantAlike(t, fmt.Sprintf("%s, anew %s, with %d", short(old), short(c), seq), x, y)
			}
		}
	}
}

// wantAlike is that an index and a plain one say the same, of all commands.
func wantAlike(t *testing.T, what string, x *index.Index, y *plain) {
	t.Helper()
	want(t, what+": Len", x.Len(), len(y.l))
	for _, kind := range []int{0, 1, 2, 5, 6, 99} {
		for _, client := range []int{1, 2, 9, 0, -1} {
			for _, key := range []string{"a", "b", "aa", "", "q"} {
				c := command(kind, client, key)
				l, seq := y.met(c, none)
				wantIds(t, what+": Deps of "+short(c), x.Deps(c, none), l...)
				want(t, what+": Seq of "+short(c), x.Seq(c, none), seq)
			}
		}
	}
}

// P17.1: one thing changed at a time, written out.
func TestPutAnewWrittenOut(t *testing.T) {
	x := made(held{id(1, 1), put(1, "a"), 7})
	x.Put(id(1, 1), put(1, "a"), 3)
	want(t, "Len behind the same", x.Len(), 1)
	wantMet(t, x, get(9, "a"), 4, id(1, 1))
	x.Put(id(1, 1), put(1, "b"), 3)
	want(t, "Len behind another key", x.Len(), 1)
	wantMet(t, x, get(9, "a"), 1)
	wantMet(t, x, find(9, "a"), 1)
	wantMet(t, x, get(9, "b"), 4, id(1, 1))
	wantMet(t, x, get(1, "q"), 4, id(1, 1))
	x.Put(id(1, 1), put(2, "b"), 5)
	want(t, "Len behind another client", x.Len(), 1)
	wantMet(t, x, get(1, "q"), 1)
	wantMet(t, x, get(2, "q"), 6, id(1, 1))
	x.Put(id(1, 1), get(2, "b"), 6)
	want(t, "Len behind another Kind", x.Len(), 1)
	wantMet(t, x, get(9, "b"), 1)
	wantMet(t, x, put(9, "b"), 7, id(1, 1))
	x.Put(id(1, 1), find(2, "b"), 7)
	wantMet(t, x, put(9, "b"), 8, id(1, 1))
	wantMet(t, x, put(9, "bb"), 8, id(1, 1))
	x.Put(id(1, 1), put(2, "b"), 8)
	wantMet(t, x, put(9, "bb"), 1)
	x.Put(id(1, 1), barrier, 9)
	wantMet(t, x, get(9, "q"), 10, id(1, 1))
	x.Put(id(1, 1), noop, 10)
	wantMet(t, x, barrier, 1)
	want(t, "Len with a no-op alone", x.Len(), 1)
	x.Drop(id(1, 1))
	wantEmpty(t, x)
}

// P17.1: Drop of one that is there, once more, of one that isn't, and of the last one of its key and client.
func TestDrop(t *testing.T) {
	x := made(held{id(0, 1), put(1, "a"), 4}, held{id(0, 2), get(1, "b"), 6}, held{id(0, 3), put(2, "a"), 8})
	x.Drop(id(0, 4))
	x.Drop(id(1, 1))
	x.Drop(none)
	want(t, "Len", x.Len(), 3)
	wantMet(t, x, get(9, "a"), 9, id(0, 1), id(0, 3))
	for range 2 {
		x.Drop(id(0, 1))
		want(t, "Len without the first", x.Len(), 2)
		wantMet(t, x, get(9, "a"), 9, id(0, 3))
		wantMet(t, x, get(1, "q"), 7, id(0, 2))
	}
	for range 2 {
		x.Drop(id(0, 3))
		want(t, "Len without the third", x.Len(), 1)
		wantMet(t, x, put(9, "a"), 1)
		wantMet(t, x, find(9, "a"), 1)
		wantMet(t, x, get(2, "q"), 1)
		wantMet(t, x, put(9, "b"), 7, id(0, 2))
		wantMet(t, x, barrier, 7, id(0, 2))
	}
	x.Drop(id(0, 2))
	wantEmpty(t, x)
	x.Put(id(0, 2), put(1, "a"), 2)
	wantMet(t, x, get(9, "a"), 3, id(0, 2))
	wantMet(t, x, get(9, "b"), 1)
}

// P17.1: of each Kind, Drop of the only one, and of one of two that are the same.
func TestDropOfEachKind(t *testing.T) {
	for _, kind := range kinds() {
		for _, client := range clients() {
			for _, key := range keys() {
				c := command(kind, client, key)
				x := made(held{id(3, 3), c, 5})
				want(t, "Len of one", x.Len(), 1)
				x.Drop(id(3, 3))
				want(t, "Len of none", x.Len(), 0)
				wantMet(t, x, barrier, 1)
				wantMet(t, x, c, 1)
				wantMet(t, x, put(client, key), 1)
				wantMet(t, x, put(client+1, key), 1)
				x.Put(id(3, 3), c, 5)
				x.Put(id(4, 3), c, 6)
				x.Drop(id(3, 3))
				want(t, "Len of one of two", x.Len(), 1)
				if kind == api.KNoop {
					wantMet(t, x, barrier, 1)
					continue
				}
				wantMet(t, x, barrier, 7, id(4, 3))
				wantMet(t, x, c, 7, id(4, 3))
			}
		}
	}
}

// P17.1: the id that is left out, when it is there, when it isn't, when it doesn't meet, and when it is the only one.
func TestBut(t *testing.T) {
	x := made(held{id(0, 1), put(1, "a"), 4}, held{id(1, 1), put(2, "a"), 6}, held{id(0, 0), put(3, "b"), 8})
	wantMetBut(t, x, get(9, "a"), none, 7, id(0, 1), id(1, 1))
	wantMetBut(t, x, get(9, "a"), id(0, 1), 7, id(1, 1))
	wantMetBut(t, x, get(9, "a"), id(1, 1), 5, id(0, 1))
	wantMetBut(t, x, get(9, "a"), id(0, 0), 7, id(0, 1), id(1, 1))
	wantMetBut(t, x, get(9, "a"), id(1, 0), 7, id(0, 1), id(1, 1))
	wantMetBut(t, x, get(9, "b"), api.Id{}, 1)
	wantMetBut(t, x, get(9, "b"), id(0, 1), 9, api.Id{})
	wantMetBut(t, x, get(1, "a"), id(0, 1), 7, id(1, 1))
	wantMetBut(t, x, barrier, id(0, 0), 7, id(0, 1), id(1, 1))
	wantMetBut(t, x, barrier, none, 9, id(0, 0), id(0, 1), id(1, 1))
	wantMetBut(t, x, find(9, ""), id(1, 1), 9, id(0, 0), id(0, 1))
	x.Put(id(5, 5), barrier, 20)
	wantMetBut(t, x, get(9, "q"), id(5, 5), 1)
	wantMetBut(t, x, get(9, "q"), id(5, 4), 21, id(5, 5))
	want(t, "Len", x.Len(), 4)
}

// P17.1: what an id has is left out for it alone: the index stays.
func TestButStays(t *testing.T) {
	for _, c := range []api.Cmd{put(1, "a"), find(1, "a"), barrier, get(1, "a")} {
		x := made(held{id(0, 1), c, 4})
		for range 3 {
			wantMetBut(t, x, put(2, "a"), id(0, 1), 1)
			wantMetBut(t, x, put(2, "a"), id(1, 1), 5, id(0, 1))
		}
	}
}

// P17.1: Seq with numbers that are 0, below 0 and great, alone and beside others; what doesn't meet doesn't count.
func TestSeq(t *testing.T) {
	for _, seq := range seqs() {
		x := made(held{id(0, 1), put(1, "a"), seq}, held{id(0, 2), put(2, "b"), most - 1}, held{id(0, 3), noop, most - 1})
		wantMet(t, x, get(9, "a"), max(seq, 0)+1, id(0, 1))
		wantMet(t, x, get(1, "a"), max(seq, 0)+1, id(0, 1))
		wantMet(t, x, get(9, "q"), 1)
		wantMet(t, x, noop, 1)
		wantMet(t, x, barrier, most, id(0, 1), id(0, 2))
		for _, other := range seqs() {
			x.Put(id(1, 1), get(1, "q"), other)
			wantMet(t, x, find(1, "a"), max(seq, other, 0)+1, id(0, 1), id(1, 1))
			wantMet(t, x, find(9, "a"), max(seq, 0)+1, id(0, 1))
		}
	}
}

// R5: a number that runs over goes round.
func TestSeqGoesRound(t *testing.T) {
	x := made(held{id(0, 1), put(1, "a"), most})
	want(t, "Seq behind the greatest int", x.Seq(get(9, "a"), none), least)
	want(t, "Seq of what doesn't meet", x.Seq(get(9, "b"), none), 1)
}

// P17.1, P17.2: ids of any numbers, put in many orders, are answered in theirs, each once.
func TestOrderOfIds(t *testing.T) {
	all := inOrder()
	for _, order := range orders(len(all)) {
		x := index.New()
		for _, k := range order {
			x.Put(all[k], put(1+k%3, "a"), k)
		}
		want(t, "Len", x.Len(), len(all))
		for _, c := range []api.Cmd{get(9, "a"), put(9, "a"), find(9, ""), barrier, get(1, "a"), find(2, "a")} {
			wantMet(t, x, c, len(all), all...)
			for k, i := range all {
				wantIds(t, fmt.Sprintf("Deps but %v", i), x.Deps(c, i), slices.Concat(all[:k], all[k+1:])...)
			}
		}
		for _, k := range order {
			x.Drop(all[k])
		}
		wantEmpty(t, x)
	}
}

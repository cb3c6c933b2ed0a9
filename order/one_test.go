package order_test

import (
	"fmt"
	"math/rand"
	"slices"
	"strings"
	"testing"

	"stonecrop/api"
	"stonecrop/order"
)

// every calls do with each order of a list.
func every(l []api.Rec, do func(l []api.Rec)) {
	var grow func(row, left []api.Rec)
	grow = func(row, left []api.Rec) {
		if len(left) == 0 {
			do(row)
		}
		for k := range left {
			grow(append(slices.Clone(row), left[k]), slices.Concat(left[:k], left[k+1:]))
		}
	}
	grow(nil, l)
}

// said is all that is answered of records: their order, or the error, and what is closed from each Id.
func said(l []api.Rec, from []api.Id) string {
	row, e := order.Order(l)
	var all strings.Builder
	fmt.Fprintln(&all, row, e)
	for _, i := range from {
		in, out := order.Closed(l, i)
		fmt.Fprintln(&all, in, out)
	}
	return all.String()
}

// P19.3: every order in which few records are handed in: the same Order, the same error, the same Closed.
func TestEveryOrder(t *testing.T) {
	for _, texts := range []string{
		"0.1=2 1.1,1.1=1 0.1",
		"0.1=1 2.1,1.1=1 0.1,2.1=1 1.1,0.2,0.3 0.2",
		"0.1=3 1.1,1.1=2 0.1 0.2,0.2 1.2,1.2=9 0.2,0.3 0.1,1.3",
		"0.1,0.2,0.3,1.1,1.2,1.3",
		"0.1=5 0.3,0.2=5 0.1,0.3=5 0.2,1.1 1.2,1.2 1.3,1.3 1.1",
		"0.1 0.2,0.2 0.3,0.3 0.4,0.4 0.5,0.5",
		"0.1 0.2 0.7,0.2 0.3,0.3 0.4,0.4 0.5",
		"0.1 1.1 0.2,1.1 0.2 0.3,0.2 0.4 1.4,0.5",
		"0.1=1,0.2=0,0.3=2 0.1,0.4 0.9,0.5",
		"0.1=1,0.2=1 0.2,0.3=2 0.1,0.4 0.3,0.5 0.4",
	} {
		l := tell(strings.Split(texts, ",")...)
		from := append(idsOf(l), id(0, 9), id(0, 8))
		first := said(l, from)
		every(l, func(l []api.Rec) { want(t, texts, said(l, from), first) })
	}
}

// P19.3: two of one Id, and other reasons beside it, in every order: the same error.
func TestEveryOrderOfFaults(t *testing.T) {
	for texts, e := range map[string]api.Errno{
		"0.1,0.1,0.2,0.3,0.4":           api.ErrThere,
		"0.1,0.1=1,0.2 0.9,0.3 0.1":     api.ErrThere,
		"0.1 0.9,0.1 0.8,0.2,0.3 0.2":   api.ErrThere,
		"0.1,0.1=0,0.2 0.9,0.3 0.1":     api.ErrForm,
		"0.1,0.1=1,0.2 0.9,0.3 0.1,7.1": api.ErrForm,
		"0.1=1 0.2,0.2 0.2,0.3 0.9,0.4": api.ErrForm,
		"0.1=1 0.2,0.2 0.3,0.3 0.9,0.4": api.ErrNone,
		"0.1=1 0.2,0.2 0.1 0.9,0.4 0.8": api.ErrNone,
		"0.1=1 0.2,0.2 0.1,0.3 0.1,0.4": api.OK,
		"0.1=1 0.2,0.2 0.1,0.4 0.3 0.2": api.ErrForm,
		"0.1=1 0.2,0.2 0.1,0.4 0.2 0.3": api.ErrNone,
	} {
		l := tell(strings.Split(texts, ",")...)
		every(l, func(l []api.Rec) {
			row, got := order.Order(l)
			if got != e || e != api.OK && len(row) > 0 {
				t.Fatalf("Order of %s: %s, %d, want %d", show(l), show(row), got, e)
			}
		})
	}
}

// drawn are closed records, so many, on some of each other: few Seqs, so that many are the same, and as many replicas as told.
func drawn(r *rand.Rand, count, edges, replicas, seqs int) []api.Rec {
	l := make([]api.Rec, count)
	places := r.Perm(count)
	for k := range l {
		l[k] = api.Rec{Id: id(places[k]%replicas, places[k]/replicas), State: 3, Attr: api.Attr{Tag: 2}}
		if r.Intn(2) == 0 {
			l[k].Attr.Tag, l[k].Attr.Seq = 1, 1+r.Intn(seqs)
		}
	}
	for range edges {
		a, b := r.Intn(count), r.Intn(count)
		if a != b {
			l[a].Attr.Deps = put(l[a].Attr.Deps, l[b].Id)
		}
	}
	return l
}

func shuffled(r *rand.Rand, l []api.Rec) []api.Rec {
	l = slices.Clone(l)
	r.Shuffle(len(l), func(a, b int) { l[a], l[b] = l[b], l[a] })
	return l
}

// P19.3: drawn orders of many.
func TestDrawnOrders(t *testing.T) {
	r := rand.New(rand.NewSource(193))
	for range 60 {
		count := 20 + r.Intn(150)
		l := drawn(r, count, r.Intn(2*count), 1+r.Intn(7), 1+r.Intn(9))
		if r.Intn(4) == 0 {
			l[r.Intn(count)].Attr.Deps = named("0.5000 1.5000")
		}
		from := append(idsOf(l)[:10], id(0, 5000))
		first := said(l, from)
		for range 12 {
			want(t, show(l), said(shuffled(r, l), from), first)
		}
	}
}

// P19.3: two of which one leads to the other, and not the other to the one, are in that order.
func TestWhoHangsComesBehind(t *testing.T) {
	r := rand.New(rand.NewSource(1931))
	for range 300 {
		count := 2 + r.Intn(30)
		l := drawn(r, count, r.Intn(2*count), 1+r.Intn(7), 1+r.Intn(5))
		row, e := order.Order(l)
		want(t, "the error", e, api.OK)
		p := read(l)
		for a := range l {
			for b := range l {
				if p.leads[a][b] && !p.leads[b][a] {
					want(t, "which is ahead", slices.Index(row, l[b].Id) < slices.Index(row, l[a].Id), true)
				}
			}
		}
		for _, i := range row {
			want(t, "each is there", slices.Contains(idsOf(l), i), true)
		}
		want(t, "how many", len(row), count)
	}
}

// P19.3: whatever is added that nobody in l hangs on, those in l keep their order among themselves.
func TestMoreThatNobodyHangsOn(t *testing.T) {
	r := rand.New(rand.NewSource(1932))
	for range 400 {
		count := 2 + r.Intn(40)
		all := drawn(r, count, r.Intn(2*count), 1+r.Intn(7), 1+r.Intn(5))
		p := read(all)
		var l, more []api.Rec
		for _, rec := range all {
			if r.Intn(2) == 0 {
				more = append(more, rec)
			} else {
				l = append(l, rec)
			}
		}
		// What those in l lead to is in l, too.
		for _, rec := range slices.Clone(l) {
			in, _ := p.closed(rec.Id)
			for _, i := range in {
				if at := slices.Index(idsOf(more), i); at >= 0 {
					l = append(l, more[at])
					more = slices.Delete(more, at, at+1)
				}
			}
		}
		alone, e := order.Order(l)
		want(t, "the error", e, api.OK)
		row, e := order.Order(shuffled(r, slices.Concat(more, l)))
		want(t, "the error with more", e, api.OK)
		kept := slices.DeleteFunc(row, func(i api.Id) bool { return slices.Contains(idsOf(more), i) })
		wantIds(t, fmt.Sprintf("those of %s behind %s", show(l), show(more)), kept, alone)
		if len(l) == 0 {
			continue
		}
		i := l[r.Intn(len(l))].Id
		in, out := order.Closed(slices.Concat(l, more), i)
		wantClosed(t, l, i, idsOf(in), out)
	}
}

// P19.3: one added at a time, which hangs on some that are there: the order of those that were there stays.
func TestOneByOne(t *testing.T) {
	r := rand.New(rand.NewSource(1933))
	for range 60 {
		var l []api.Rec
		var row []api.Id
		places := r.Perm(40)
		for _, place := range places {
			rec := api.Rec{Id: id(place%3, place/3), State: 3, Attr: api.Attr{Seq: 1 + r.Intn(4), Tag: 1}}
			for range r.Intn(4) {
				if len(l) > 0 {
					rec.Attr.Deps = put(rec.Attr.Deps, l[r.Intn(len(l))].Id)
				}
			}
			l = append(l, rec)
			next, e := order.Order(l)
			want(t, "the error", e, api.OK)
			at := slices.Index(next, rec.Id)
			wantIds(t, "those that were there", slices.Delete(slices.Clone(next), at, at+1), row)
			row = next
		}
	}
}

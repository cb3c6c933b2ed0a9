package order_test

import (
	"fmt"
	"slices"
	"testing"

	"stonecrop/api"
	"stonecrop/order"
)

// over writes another Id over all of a list, and behind it as far as its memory goes.
func over(l []api.Id) {
	l = l[:cap(l)]
	for at := range l {
		l[at] = id(-7, -7)
	}
}

// overAll does so with records and their lists.
func overAll(l []api.Rec) {
	l = l[:cap(l)]
	for at := range l {
		over(l[at].Attr.Deps)
		l[at] = api.Rec{Id: id(-7, -7), State: -7}
	}
}

// roomy are the same records, in memory that has room behind each list and behind all: there are Ids and records in it, too.
func roomy(l []api.Rec) []api.Rec {
	all := make([]api.Rec, 0, len(l)+3)
	for _, r := range l {
		deps := make([]api.Id, 0, len(r.Attr.Deps)+4)
		deps = append(deps, r.Attr.Deps...)
		copy(deps[len(deps):cap(deps)], named("0.1 1.1 0.2 0.777"))
		r.Attr.Deps = deps
		all = append(all, r)
	}
	copy(all[len(l):cap(all)], tell("0.1 1.1", "0.777=1", "1.1 0.1"))
	return all
}

// image tells all of the records' memory.
func image(l []api.Rec) string {
	told := fmt.Sprint(len(l), cap(l))
	for _, r := range l[:cap(l)] {
		told += fmt.Sprint(" ", r, len(r.Attr.Deps), cap(r.Attr.Deps), r.Attr.Deps[:cap(r.Attr.Deps)])
	}
	return told
}

func lists() [][]api.Rec {
	wrong := tell("0.1=1 0.2", "0.2=9 0.1", "0.3")
	wrong[2].State = 1
	return [][]api.Rec{
		nil, tell("0.1"), tell("0.1=2 1.1", "1.1=1 0.1"), tell("1.1=1 0.1", "0.1=2 1.1", "0.3 0.1 1.1 0.2", "0.2"),
		tell("0.5", "1.1 0.5", "0.4=3 0.3", "0.3=3 0.4", "2.2=1 1.1 0.3"), tell("0.3 0.1 0.2", "0.2", "0.1 0.2 0.9"),
		tell("0.9", "0.8", "0.7", "0.6", "0.5", "0.4 0.9", "0.3 0.8"), tell("0.3 0.2 0.1 0.2 7.1", "0.1 0.1 0.3"), wrong,
	}
}

// P19.3, R4: what is handed in stays as it is, and so does what lies behind it, which isn't read.
func TestHandedInStays(t *testing.T) {
	for _, l := range lists() {
		given := roomy(l)
		before := image(given)
		wantPlain(t, given)
		for _, i := range named("0.1 1.1 0.2 0.3 0.777 0.9") {
			order.Closed(given, i)
		}
		want(t, "what was handed in", image(given), before)
	}
}

// R4: the same of lists in which two have one Id, and of those with other faults.
func TestHandedInStaysRefused(t *testing.T) {
	for _, l := range [][]api.Rec{tell("0.2", "0.1", "0.1"), tell("0.3 0.2", "0.1 0.1"), tell("0.2 0.1", "0.2=1 0.1", "0.1")} {
		given := roomy(l)
		before := image(given)
		order.Order(given)
		order.Within(given)
		order.Closed(given, id(0, 2))
		want(t, "what was handed in", image(given), before)
	}
}

// R4: what Order and Within answer may be written over: neither the records nor another answer changes.
func TestAnswersWrittenOver(t *testing.T) {
	for _, l := range lists() {
		given := roomy(l)
		before := image(given)
		var held [][]api.Id
		wanted, e := order.Order(l)
		for range 40 {
			row, _ := order.Order(given)
			held = append(held, row, order.Within(given))
		}
		for k, row := range held {
			wantedNow := wanted
			if k%2 == 1 {
				wantedNow = within(l)
			}
			wantIds(t, fmt.Sprintf("answer %d", k), row, wantedNow)
			over(append(row, id(-5, -5)))
			over(row)
		}
		want(t, "what was handed in", image(given), before)
		again, e2 := order.Order(given)
		wantIds(t, "once more", again, rowOf(l))
		want(t, "the error once more", e2, e)
	}
}

func rowOf(l []api.Rec) []api.Id {
	row, _ := order.Order(l)
	return row
}

// R4: what Closed answers may be written over, records, their lists, and the list of those that aren't there.
func TestClosedWrittenOver(t *testing.T) {
	for _, l := range lists() {
		for _, i := range idsOf(l) {
			given := roomy(l)
			before := image(given)
			ids, lost := read(l).closed(i)
			wantClosed(t, given, i, ids, lost)
			type answer struct {
				in  []api.Rec
				out []api.Id
			}
			var held []answer
			for range 30 {
				in, out := order.Closed(given, i)
				held = append(held, answer{in, out})
			}
			want(t, "what was handed in", image(given), before)
			fresh := roomy(l)
			for _, a := range held {
				wantIds(t, "those that are there", idsOf(a.in), ids)
				for k := range a.in {
					at := slices.Index(idsOf(fresh), a.in[k].Id)
					want(t, "a record", alike(a.in[k:k+1], fresh[at:at+1]), true)
					over(append(a.in[k].Attr.Deps, id(-5, -5)))
					over(a.in[k].Attr.Deps)
				}
				wantIds(t, "those that aren't", a.out, lost)
				over(append(a.out, id(-5, -5)))
				over(a.out)
				overAll(append(a.in, api.Rec{}))
				overAll(a.in)
			}
			want(t, "what was handed in, behind writing over", image(given), before)
			wantClosed(t, given, i, ids, lost)
		}
	}
}

// R4: records that share one list as their Deps have each one of its own in an answer.
func TestSharedDeps(t *testing.T) {
	shared := named("0.1 0.2 0.9")
	l := []api.Rec{{Id: id(0, 3), Attr: api.Attr{Deps: shared}}, {Id: id(0, 1), Attr: api.Attr{Deps: shared[1:]}}, {Id: id(0, 2), Attr: api.Attr{Deps: shared[:2]}}}
	wantClosed(t, l, id(0, 3), named("0.1 0.2 0.3"), named("0.9"))
	in, out := order.Closed(l, id(0, 3))
	over(in[0].Attr.Deps)
	wantIds(t, "the second one's", in[1].Attr.Deps, named("0.1 0.2"))
	over(in[1].Attr.Deps)
	wantIds(t, "the third one's", in[2].Attr.Deps, named("0.1 0.2 0.9"))
	over(in[2].Attr.Deps)
	wantIds(t, "what isn't there", out, named("0.9"))
	wantIds(t, "the list", shared, named("0.1 0.2 0.9"))
}

// R4: what was handed in may be written over: what was answered stays.
func TestHandedInWrittenOver(t *testing.T) {
	for _, l := range lists() {
		given := roomy(l)
		row, _ := order.Order(given)
		inside := order.Within(given)
		type answer struct {
			in  []api.Rec
			out []api.Id
		}
		var held []answer
		for _, i := range idsOf(l) {
			in, out := order.Closed(given, i)
			held = append(held, answer{in, out})
		}
		overAll(given)
		wantIds(t, "Order", row, rowOf(l))
		wantIds(t, "Within", inside, within(l))
		for k, i := range idsOf(l) {
			in, out := order.Closed(l, i)
			want(t, "those that are there", alike(held[k].in, in), true)
			wantIds(t, "those that aren't", held[k].out, out)
		}
	}
}

// R6: the same records have the same answers, each time.
func TestSameAnswers(t *testing.T) {
	first := ""
	for round := range 50 {
		now := ""
		for _, l := range lists() {
			now += said(l, append(idsOf(l), named("0.1 0.9")...)) + fmt.Sprint(order.Within(l))
		}
		if round == 0 {
			first = now
		}
		want(t, "what was said", now, first)
	}
}

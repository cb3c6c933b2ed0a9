package order_test

import (
	"fmt"
	"math"
	"reflect"
	"slices"
	"strconv"
	"strings"
	"testing"

	"stonecrop/api"
	"stonecrop/order"
	"stonecrop/rec"
)

const (
	most  = math.MaxInt
	least = math.MinInt
	limit = 1 << 40
)

func id(r, n int) api.Id { return api.Id{R: r, N: n} }

func show(x any) string { return fmt.Sprintf("%.600s", fmt.Sprint(x)) }

func want[T comparable](t *testing.T, what string, got, want T) {
	t.Helper()
	if got != want {
		t.Fatalf("%s: %#v, want %#v", what, got, want)
	}
}

func number(s string) int {
	v, e := strconv.Atoi(s)
	if e != nil {
		panic(e)
	}
	return v
}

// named are the Ids of a text: "1.3 0.4".
func named(text string) []api.Id {
	var l []api.Id
	for _, word := range strings.Fields(text) {
		r, n, _ := strings.Cut(word, ".")
		l = append(l, id(number(r), number(n)))
	}
	return l
}

// told is a record of SCom by a text: "0.1=2 1.1" is 0.1 of TagSeq, with Seq 2, on 1.1; "0.1 1.1 0.2" is 0.1 of TagId, on both.
func told(text string) api.Rec {
	own, deps, _ := strings.Cut(text, " ")
	own, seq, numbered := strings.Cut(own, "=")
	r := api.Rec{Id: named(own)[0], State: 3, Attr: api.Attr{Deps: named(deps), Tag: 2}}
	if numbered {
		r.Attr.Tag, r.Attr.Seq = 1, number(seq)
	}
	return r
}

func tell(texts ...string) []api.Rec {
	var l []api.Rec
	for _, text := range texts {
		l = append(l, told(text))
	}
	return l
}

func idsOf(l []api.Rec) []api.Id {
	var out []api.Id
	for _, r := range l {
		out = append(out, r.Id)
	}
	return out
}

func wantIds(t *testing.T, what string, got, want []api.Id) {
	t.Helper()
	if !slices.Equal(got, want) {
		t.Fatalf("%s: %s, want %s", what, show(got), show(want))
	}
}

// wantOrder is that records have these Ids, in this order.
func wantOrder(t *testing.T, l []api.Rec, ids ...api.Id) {
	t.Helper()
	got, e := order.Order(l)
	if e != api.OK || !slices.Equal(got, ids) {
		t.Fatalf("Order of %s: %s, %d, want %s", show(l), show(got), e, show(ids))
	}
}

// wantRow is wantOrder by texts.
func wantRow(t *testing.T, row string, texts ...string) {
	t.Helper()
	wantOrder(t, tell(texts...), named(row)...)
}

// wantRefused is that records have no order, and that nothing is answered beside the error.
func wantRefused(t *testing.T, what string, want api.Errno, l []api.Rec) {
	t.Helper()
	got, e := order.Order(l)
	if e != want || len(got) != 0 {
		t.Fatalf("%s: Order of %s: %s, %d, want %d and nothing", what, show(l), show(got), e, want)
	}
}

func wantWithin(t *testing.T, l []api.Rec, ids ...api.Id) {
	t.Helper()
	wantIds(t, "Within of "+show(l), order.Within(l), ids)
}

// whole is a record in which lists that are nil and those without elements are the same.
func whole(r api.Rec) api.Rec {
	if len(r.Attr.Deps) == 0 {
		r.Attr.Deps = nil
	}
	return r
}

func alike(a, b []api.Rec) bool {
	return slices.EqualFunc(a, b, func(x, y api.Rec) bool { return reflect.DeepEqual(whole(x), whole(y)) })
}

// wantClosed is that i leads to these of l, each as it is there, and to these Ids that aren't.
func wantClosed(t *testing.T, l []api.Rec, i api.Id, in, out []api.Id) {
	t.Helper()
	var records []api.Rec
	for _, i := range in {
		records = append(records, l[slices.IndexFunc(l, func(r api.Rec) bool { return r.Id == i })])
	}
	gotIn, gotOut := order.Closed(l, i)
	if !alike(gotIn, records) || !slices.Equal(gotOut, out) {
		t.Fatalf("Closed of %s from %v: %s and %s, want %s and %s", show(l), i, show(gotIn), show(gotOut), show(records), show(out))
	}
}

// inOrder are right Ids in their order: by N, then by R.
func inOrder() []api.Id {
	return named("0.0 1.0 6.0 0.1 2.1 5.1 6.1 1.2 0.3 3.3 0.10 0.100 2.100 0.4294967296 1.4294967296 0.1099511627775 0.1099511627776 6.1099511627776")
}

// wild are Ids that needn't be right, in their order.
func wild() []api.Id {
	return []api.Id{
		id(least, least), id(0, least), id(most, least), id(5, least+1), id(most, -1<<32), id(-1, -1), id(0, -1),
		id(least, 0), id(-1, 0), id(0, 0), id(1, 0), id(6, 0), id(7, 0), id(most, 0), id(0, 1), id(2, 1), id(1, 2), id(0, 3),
		id(1<<32, 1<<31), id(0, 1<<32), id(1, 1<<32), id(0, limit), id(6, limit), id(0, limit+1), id(3, most-1), id(least, most), id(most, most),
	}
}

// ahead is the order of Ids once more, by other means.
func ahead(a, b api.Id) bool { return slices.Compare([]int{a.N, a.R}, []int{b.N, b.R}) < 0 }

// stands tells whether a stands ahead of b within a component, by the chapter's words.
func stands(a, b api.Rec) bool {
	if a.Attr.Tag != b.Attr.Tag {
		return a.Attr.Tag < b.Attr.Tag
	}
	if a.Attr.Tag == 1 && a.Attr.Seq != b.Attr.Seq {
		return a.Attr.Seq < b.Attr.Seq
	}
	return ahead(a.Id, b.Id)
}

// within takes out, again and again, the first record that no other one stands ahead of.
func within(l []api.Rec) []api.Id {
	var out []api.Id
	for l = slices.Clone(l); len(l) > 0; {
		at := slices.IndexFunc(l, func(r api.Rec) bool {
			return !slices.ContainsFunc(l, func(other api.Rec) bool { return stands(other, r) })
		})
		out = append(out, l[at].Id)
		l = slices.Delete(l, at, at+1)
	}
	return out
}

// plain is the chapter once more, by other means: records as they came, and a table of which leads to which, filled till nothing is new.
type plain struct {
	l     []api.Rec
	leads [][]bool
}

func read(l []api.Rec) *plain {
	p := &plain{l, make([][]bool, len(l))}
	for a, r := range l {
		p.leads[a] = make([]bool, len(l))
		for b := range l {
			p.leads[a][b] = a == b || slices.Contains(r.Attr.Deps, l[b].Id)
		}
	}
	for middle := range l {
		for a := range l {
			for b := range l {
				p.leads[a][b] = p.leads[a][b] || p.leads[a][middle] && p.leads[middle][b]
			}
		}
	}
	return p
}

// fault asks for one reason behind the other, as the chapter names them.
func (p *plain) fault() api.Errno {
	e := api.OK
	for a, r := range p.l {
		for b, other := range p.l {
			if a != b && r.Id == other.Id {
				e = api.ErrThere
			}
		}
	}
	for _, r := range p.l {
		if rec.Check(r) != api.OK || r.State != 3 {
			return api.ErrForm
		}
		for _, i := range r.Attr.Deps {
			if e == api.OK && !slices.Contains(idsOf(p.l), i) {
				e = api.ErrNone
			}
		}
	}
	return e
}

// order asks, for each component anew, all records for the least Id whose component may come.
func (p *plain) order() []api.Id {
	var out []api.Id
	for come := make([]bool, len(p.l)); ; {
		next := -1
		for a, r := range p.l {
			if !come[a] && p.may(a, come) && (next < 0 || ahead(r.Id, p.l[next].Id)) {
				next = a
			}
		}
		if next < 0 {
			return out
		}
		var part []api.Rec
		for b, r := range p.l {
			if p.leads[next][b] && p.leads[b][next] {
				come[b] = true
				part = append(part, r)
			}
		}
		out = append(out, within(part)...)
	}
}

// may tells whether all have come that a leads to, and that don't lead back.
func (p *plain) may(a int, come []bool) bool {
	for b := range p.l {
		if p.leads[a][b] && !p.leads[b][a] && !come[b] {
			return false
		}
	}
	return true
}

// closed answers the Ids of those that i leads to, of those that are there and of those that aren't.
func (p *plain) closed(i api.Id) (in, out []api.Id) {
	from := slices.Index(idsOf(p.l), i)
	if from < 0 {
		return nil, nil
	}
	for b, r := range p.l {
		if !p.leads[from][b] {
			continue
		}
		in = put(in, r.Id)
		for _, d := range r.Attr.Deps {
			if !slices.Contains(idsOf(p.l), d) {
				out = put(out, d)
			}
		}
	}
	return in, out
}

// put puts i at its place in a set.
func put(l []api.Id, i api.Id) []api.Id {
	for at, x := range l {
		if x == i {
			return l
		}
		if ahead(i, x) {
			return slices.Insert(l, at, i)
		}
	}
	return append(l, i)
}

// wantPlain is that all calls answer what the chapter says of records, from each Id and from some that aren't there.
func wantPlain(t *testing.T, l []api.Rec) {
	t.Helper()
	p := read(l)
	e := p.fault()
	if e == api.OK {
		wantOrder(t, l, p.order()...)
	} else {
		wantRefused(t, "as it is", e, l)
	}
	wantWithin(t, l, within(l)...)
	if e == api.ErrThere || slices.ContainsFunc(l, func(r api.Rec) bool { return twice(l, r.Id) }) {
		return
	}
	for _, i := range append(idsOf(l), id(0, 77), id(-1, -1), id(6, limit)) {
		in, out := p.closed(i)
		wantClosed(t, l, i, in, out)
	}
}

func twice(l []api.Rec, i api.Id) bool {
	count := 0
	for _, r := range l {
		if r.Id == i {
			count++
		}
	}
	return count > 1
}

package ids_test

import (
	"fmt"
	"math"
	"math/rand"
	"runtime"
	"slices"
	"strings"
	"testing"

	"stonecrop/api"
	"stonecrop/codec"
	"stonecrop/ids"
)

const most = 1 << 40

func id(r, n int) api.Id { return api.Id{R: r, N: n} }

// edges are numbers at and beyond the bounds of R and of N.
func edges() []int {
	return []int{math.MinInt, -most, -1, 0, 1, 3, 6, 7, 8, most - 1, most, most + 1, math.MaxInt}
}

// edgeIds are all ids of these numbers.
func edgeIds() []api.Id {
	var l []api.Id
	for _, r := range edges() {
		for _, n := range edges() {
			l = append(l, id(r, n))
		}
	}
	return l
}

// right, ahead, rises, checked and union are the document's words once more, by other means.
func right(i api.Id) bool {
	return slices.Contains([]int{0, 1, 2, 3, 4, 5, 6}, i.R) && !(i.N < 0 || i.N > most)
}

func ahead(a, b api.Id) bool {
	if a.N != b.N {
		return a.N < b.N
	}
	return a.R < b.R
}

func rises(l []api.Id) bool {
	for x := range l {
		for y := range x {
			if !ahead(l[y], l[x]) {
				return false
			}
		}
	}
	return true
}

func checked(l []api.Id) bool {
	return len(l) <= 4096 && !slices.ContainsFunc(l, func(i api.Id) bool { return !right(i) }) && rises(l)
}

// union puts each id of the lists at its place, one by one.
func union(lists ...[]api.Id) []api.Id {
	var out []api.Id
	for _, l := range lists {
		for _, i := range l {
			at := 0
			for at < len(out) && ahead(out[at], i) {
				at++
			}
			if at == len(out) || out[at] != i {
				out = slices.Insert(out, at, i)
			}
		}
	}
	return out
}

// but is the set without that id, by a copy of the others.
func but(l []api.Id, i api.Id) []api.Id {
	var out []api.Id
	for _, x := range l {
		if x.R != i.R || x.N != i.N {
			out = append(out, x)
		}
	}
	return out
}

// row is a right set of that many ids.
func row(n int) []api.Id {
	var l []api.Id
	for k := range n {
		l = append(l, id(k%7, 3*(k/7)))
	}
	return l
}

func turned(l []api.Id) []api.Id {
	out := slices.Clone(l)
	slices.Reverse(out)
	return out
}

func shuffled(l []api.Id, seed int64) []api.Id {
	out := slices.Clone(l)
	rand.New(rand.NewSource(seed)).Shuffle(len(out), func(a, b int) { out[a], out[b] = out[b], out[a] })
	return out
}

// subsets are all sets of ids of l, which rises.
func subsets(l []api.Id) [][]api.Id {
	var out [][]api.Id
	for which := range 1 << len(l) {
		var s []api.Id
		for k, i := range l {
			if which>>k&1 == 1 {
				s = append(s, i)
			}
		}
		out = append(out, s)
	}
	return out
}

// rows are all lists of up to that many ids of l, however often.
func rows(l []api.Id, n int) [][]api.Id {
	out := [][]api.Id{nil}
	for from := 0; n > 0; n-- {
		behind := len(out)
		for _, x := range out[from:behind] {
			for _, i := range l {
				out = append(out, append(slices.Clone(x), i))
			}
		}
		from = behind
	}
	return out
}

// five ids of the same N, of the same R, and of neither; they rise.
func few() []api.Id { return []api.Id{id(2, 0), id(0, 3), id(1, 3), id(0, 4), id(6, most)} }

func short(l []api.Id) string {
	if len(l) > 12 {
		return fmt.Sprint(l[:12], " and so on, ", len(l))
	}
	return fmt.Sprint(l)
}

func wantList(t *testing.T, name string, got, want []api.Id) {
	t.Helper()
	if !slices.Equal(got, want) {
		t.Errorf("%s: %s, want %s", name, short(got), short(want))
	}
}

// P5.1: the document's examples.
func TestExamples(t *testing.T) {
	if s := ids.Text(id(2, 17)); s != "2.17" {
		t.Errorf("text %q", s)
	}
	if !ids.Less(id(1, 3), id(0, 4)) || ids.Less(id(0, 4), id(1, 3)) {
		t.Error("1.3 is ahead of 0.4")
	}
}

// P5.1: which ids are right, at each bound.
func TestRight(t *testing.T) {
	for _, r := range []int{-1, 0, 6, 7} {
		for _, n := range []int{-1, 0, most, most + 1} {
			want := (r == 0 || r == 6) && (n == 0 || n == most)
			if got := ids.Right(id(r, n)); got != want {
				t.Errorf("Right(%d.%d) is %v", r, n, got)
			}
		}
	}
	for _, i := range edgeIds() {
		if got := ids.Right(i); got != right(i) {
			t.Errorf("Right(%v) is %v", i, got)
		}
	}
}

// P5.1: the order of ids, both ways.
func TestLess(t *testing.T) {
	for _, c := range []struct {
		a, b api.Id
	}{
		{id(0, 3), id(1, 3)}, {id(5, 3), id(6, 3)}, {id(-1, 3), id(0, 3)},
		{id(2, 0), id(2, 1)}, {id(2, most), id(2, most+1)}, {id(2, -1), id(2, 0)},
		{id(6, 3), id(0, 4)}, {id(math.MaxInt, 3), id(math.MinInt, 4)},
		{id(0, math.MinInt), id(0, math.MaxInt)}, {id(math.MinInt, 0), id(math.MaxInt, 0)},
	} {
		if !ids.Less(c.a, c.b) || ids.Less(c.b, c.a) {
			t.Errorf("%v is ahead of %v", c.a, c.b)
		}
	}
	for _, a := range edgeIds() {
		if ids.Less(a, a) {
			t.Errorf("%v is ahead of itself", a)
		}
		for _, b := range edgeIds() {
			if ids.Less(a, b) != ahead(a, b) {
				t.Errorf("Less(%v, %v) is %v", a, b, !ahead(a, b))
			}
			if a != b && ids.Less(a, b) == ids.Less(b, a) {
				t.Errorf("of %v and %v not just one is ahead", a, b)
			}
		}
	}
}

// P5.1: texts, of N of one digit and of many.
func TestText(t *testing.T) {
	for _, c := range []struct {
		i api.Id
		s string
	}{
		{id(0, 0), "0.0"}, {id(6, 9), "6.9"}, {id(3, 10), "3.10"}, {id(1, 100), "1.100"},
		{id(0, 1234567890), "0.1234567890"}, {id(6, most), "6.1099511627776"}, {id(5, most-1), "5.1099511627775"},
	} {
		if s := ids.Text(c.i); s != c.s {
			t.Errorf("Text(%v) is %q, want %q", c.i, s, c.s)
		}
	}
	for _, i := range edgeIds() {
		if s := ids.Text(i); s != fmt.Sprintf("%d.%d", i.R, i.N) {
			t.Errorf("Text(%v) is %q", i, s)
		}
	}
}

type named struct {
	name string
	l    []api.Id
}

// lists are those that are right sets, and those that aren't for just one thing.
func lists() (rightOnes, wrongOnes []named) {
	rightOnes = []named{
		{"nil", nil}, {"the empty list", []api.Id{}}, {"one", []api.Id{id(3, 5)}}, {"rising", few()},
		{"one at the lower bounds", []api.Id{id(0, 0)}}, {"one at the upper bounds", []api.Id{id(6, most)}},
		{"just 4096", row(4096)}, {"4095", row(4095)},
	}
	wrongOnes = []named{
		{"falling", turned(few())}, {"two that fall", []api.Id{id(0, 4), id(1, 3)}}, {"by R, not by N", []api.Id{id(0, 4), id(1, 3), id(2, 2)}},
		{"one N, falling R", []api.Id{id(1, 3), id(0, 3)}}, {"twice, side by side", []api.Id{id(2, 0), id(0, 3), id(0, 3), id(0, 4)}},
		{"twice, at the front", []api.Id{id(2, 0), id(2, 0), id(0, 4)}}, {"twice, at the end", []api.Id{id(2, 0), id(0, 4), id(0, 4)}},
		{"twice, far apart", append(row(50), id(0, 0))}, {"4097", row(4097)}, {"many more", row(20000)},
		{"4096, the last two turned", append(row(4094), row(4096)[4095], row(4096)[4094])},
		{"4096, one of them twice", append(row(4095), row(4095)[4094])},
	}
	for _, i := range []api.Id{id(-1, 5), id(7, 5), id(3, -1), id(3, most+1), id(math.MinInt, 5), id(math.MaxInt, 5), id(3, math.MinInt), id(3, math.MaxInt)} {
		wrongOnes = append(wrongOnes, named{"one wrong id alone", []api.Id{i}}, named{"one wrong id", union([]api.Id{id(2, 0), id(2, 9), i})})
	}
	return rightOnes, wrongOnes
}

// P5.1: what is a right set, and what isn't.
func TestCheck(t *testing.T) {
	rightOnes, wrongOnes := lists()
	for _, x := range rightOnes {
		if !ids.Check(x.l) {
			t.Errorf("%s is a right set: %s", x.name, short(x.l))
		}
	}
	for _, x := range wrongOnes {
		if ids.Check(x.l) {
			t.Errorf("%s is no right set: %s", x.name, short(x.l))
		}
	}
	for _, l := range rows(append(few(), id(7, 1)), 4) {
		if ids.Check(l) != checked(l) {
			t.Errorf("Check(%v) is %v", l, !checked(l))
		}
	}
}

// P5.1: Equal holds lists against each other, id by id; nil and the empty list are the same.
func TestEqual(t *testing.T) {
	if !ids.Equal(nil, []api.Id{}) || !ids.Equal([]api.Id{}, nil) || !ids.Equal(nil, nil) {
		t.Error("empty lists are the same")
	}
	all := subsets(append(few(), id(6, most+1)))
	for x, a := range all {
		for y, b := range all {
			if ids.Equal(a, slices.Clone(b)) != (x == y) {
				t.Errorf("Equal(%v, %v) is %v", a, b, x != y)
			}
		}
	}
	l := row(4097)
	for _, at := range []int{0, 2000, 4096} {
		for _, i := range []api.Id{id(l[at].R, -5), id(-5, l[at].N)} {
			other := slices.Clone(l)
			other[at] = i
			if ids.Equal(l, other) || ids.Equal(other, l) {
				t.Errorf("lists that differ at %d are equal", at)
			}
		}
	}
	if !ids.Equal(l, row(4097)) || ids.Equal(l, row(4096)) || ids.Equal(row(4096), l) {
		t.Error("rows of 4097 and 4096 ids")
	}
}

// P5.1: the set of ids in whatever order, however often, right or not.
func TestSet(t *testing.T) {
	wantList(t, "nil", ids.Set(nil), nil)
	wantList(t, "the empty list", ids.Set([]api.Id{}), nil)
	wantList(t, "written out", ids.Set([]api.Id{id(6, most), id(1, 3), id(0, 4), id(1, 3), id(2, 0), id(0, 3), id(2, 0)}), few())
	rightOnes, wrongOnes := lists()
	for _, x := range append(rightOnes, wrongOnes...) {
		if len(x.l) > 5000 {
			continue
		}
		want := union(x.l)
		for name, l := range map[string][]api.Id{
			"as it is": x.l, "turned": turned(x.l), "shuffled": shuffled(x.l, 1), "twice": slices.Concat(x.l, x.l),
			"there and back": slices.Concat(x.l, turned(x.l)), "twice, shuffled": shuffled(slices.Concat(x.l, x.l), 2),
		} {
			wantList(t, "Set of "+x.name+", "+name, ids.Set(l), want)
		}
	}
	for _, l := range rows(few(), 5) {
		wantList(t, fmt.Sprintf("Set(%v)", l), ids.Set(l), union(l))
	}
	all := edgeIds()
	wantList(t, "all edges", ids.Set(shuffled(all, 3)), union(all))
	wantList(t, "one id 10000 times", ids.Set(slices.Repeat([]api.Id{id(4, 4)}, 10000)), []api.Id{id(4, 4)})
	if l := ids.Set(shuffled(row(4097), 4)); len(l) != 4097 || !rises(l) {
		t.Errorf("the set of 4097 ids has %d", len(l))
	}
}

func wantJoin(t *testing.T, name string, a, b, want []api.Id) {
	t.Helper()
	wantList(t, name, ids.Join(a, b), want)
	wantList(t, name+", the other way round", ids.Join(b, a), want)
}

// P5.1, P5.3: Join of sets that share nothing, something and all, with the empty set on either side, both ways round.
func TestJoin(t *testing.T) {
	a, b, c := []api.Id{id(2, 0), id(1, 3)}, []api.Id{id(0, 3), id(0, 4)}, []api.Id{id(1, 3), id(6, most)}
	wantJoin(t, "nothing shared", a, b, []api.Id{id(2, 0), id(0, 3), id(1, 3), id(0, 4)})
	wantJoin(t, "something shared", a, c, []api.Id{id(2, 0), id(1, 3), id(6, most)})
	wantJoin(t, "all shared", a, slices.Clone(a), a)
	wantJoin(t, "itself", a, a, a)
	wantJoin(t, "one in the other", few(), a, few())
	wantJoin(t, "one ahead of the other", []api.Id{id(6, 1), id(5, 2)}, []api.Id{id(0, 3), id(1, 4)}, []api.Id{id(6, 1), id(5, 2), id(0, 3), id(1, 4)})
	wantJoin(t, "with nil", a, nil, a)
	wantJoin(t, "with the empty list", a, []api.Id{}, a)
	wantJoin(t, "empty ones", nil, []api.Id{}, nil)
	wantJoin(t, "ids that aren't right", []api.Id{id(-1, -1), id(7, 3)}, []api.Id{id(0, 3), id(0, most+1)}, []api.Id{id(-1, -1), id(0, 3), id(7, 3), id(0, most+1)})
}

// P5.1, P5.3: all pairs of sets of few ids; each has all of both, and nothing else.
func TestJoinOfAll(t *testing.T) {
	universe := append(few(), id(6, most+1))
	all := subsets(universe)
	for x, a := range all {
		for y, b := range all {
			l := ids.Join(a, b)
			wantList(t, fmt.Sprintf("Join(%v, %v)", a, b), l, all[x|y])
			for _, i := range universe {
				if ids.Has(l, i) != (ids.Has(a, i) || ids.Has(b, i)) {
					t.Errorf("%v in Join(%v, %v)", i, a, b)
				}
			}
		}
	}
}

// P5.1, P5.3: greater sets, up to MaxDeps and beyond.
func TestJoinOfMany(t *testing.T) {
	r := rand.New(rand.NewSource(5))
	for _, n := range []int{100, 4096, 4097} {
		l := row(n)
		for _, share := range []int{0, 1, 50, 100} {
			var a, b []api.Id
			for k, i := range l {
				both := r.Intn(100) < share
				if both || k%2 == 0 {
					a = append(a, i)
				}
				if both || k%2 == 1 {
					b = append(b, i)
				}
			}
			wantJoin(t, fmt.Sprintf("%d ids, %d of 100 shared", n, share), a, b, l)
		}
		wantJoin(t, "one half ahead", l[:n/2], l[n/2:], l)
		wantJoin(t, "all and none", l, nil, l)
		wantJoin(t, "all and all", l, slices.Clone(l), l)
	}
	if l := ids.Join(row(4096), []api.Id{id(0, most)}); len(l) != 4097 || ids.Check(l) || l[4096] != id(0, most) {
		t.Error("4096 ids and one more")
	}
}

// P5.1: Has and Without of ids ahead of the first, between two, behind the last, and in the set.
func TestHasAndWithout(t *testing.T) {
	l := []api.Id{id(1, 3), id(4, 3), id(0, 5)}
	for _, i := range []api.Id{id(0, 0), id(0, 3), id(2, 3), id(3, 3), id(5, 3), id(1, 4), id(4, 4), id(1, 5), id(0, 6), id(0, most), id(-1, 3), id(7, 3), id(0, -1)} {
		if ids.Has(l, i) {
			t.Errorf("%v isn't in it", i)
		}
		wantList(t, fmt.Sprintf("without %v", i), ids.Without(l, i), l)
	}
	for at, i := range l {
		if !ids.Has(l, i) {
			t.Errorf("%v is in it", i)
		}
		wantList(t, fmt.Sprintf("without %v", i), ids.Without(l, i), slices.Concat(l[:at], l[at+1:]))
	}
	for _, l := range [][]api.Id{nil, {}} {
		if ids.Has(l, api.Id{}) || len(ids.Without(l, api.Id{})) != 0 {
			t.Error("an id in the empty set")
		}
	}
	if l := ids.Without([]api.Id{id(2, 2)}, id(2, 2)); len(l) != 0 {
		t.Errorf("one id without it: %v", l)
	}
}

// P5.1: Has and Without of all sets of few ids, and of each id of great ones.
func TestHasAndWithoutOfAll(t *testing.T) {
	universe := union(few(), []api.Id{id(3, 3), id(-1, 3), id(7, most), id(0, math.MaxInt)})
	for _, l := range subsets(universe) {
		for _, i := range append(edgeIds(), universe...) {
			if ids.Has(l, i) != slices.Contains(l, i) {
				t.Fatalf("Has(%v, %v) is %v", l, i, ids.Has(l, i))
			}
			if got := ids.Without(l, i); !slices.Equal(got, but(l, i)) {
				t.Fatalf("Without(%v, %v) is %v", l, i, got)
			}
		}
	}
	for _, l := range [][]api.Id{row(4096), row(4097)} {
		for at, i := range l {
			between := id(i.R, i.N+1)
			if !ids.Has(l, i) || ids.Has(l, between) {
				t.Fatalf("Has of %v or %v of %d ids", i, between, len(l))
			}
			if at%97 == 0 || at == len(l)-1 {
				wantList(t, "without one of many", ids.Without(l, i), but(l, i))
				wantList(t, "without one that isn't there", ids.Without(l, between), l)
			}
		}
	}
}

// P5.1, P1: of lists that don't rise each call answers; and by itself, the same each time.
func TestListsThatDoNotRise(t *testing.T) {
	all := rows([]api.Id{id(2, 0), id(0, 3), id(1, 3), id(-1, math.MinInt)}, 4)
	for _, a := range all {
		for _, b := range all {
			if !slices.Equal(ids.Join(a, b), ids.Join(a, b)) || ids.Equal(a, b) != slices.Equal(a, b) {
				t.Fatalf("%v and %v have two answers", a, b)
			}
		}
		for _, i := range few() {
			if ids.Has(a, i) != ids.Has(a, i) || !slices.Equal(ids.Without(a, i), ids.Without(a, i)) {
				t.Fatalf("%v and %v have two answers", a, i)
			}
		}
		if !codec.Same(ids.Item(a), ids.Item(a)) {
			t.Fatalf("%v has two items", a)
		}
	}
	_, wrongOnes := lists()
	for _, x := range wrongOnes {
		for _, l := range [][]api.Id{x.l, turned(x.l), shuffled(x.l, 6)} {
			ids.Join(l, row(4097))
			ids.Join(turned(row(4097)), l)
			ids.Has(l, id(1, 3))
			ids.Without(l, id(1, 3))
			if y, ok := ids.Take(ids.Item(l)); !ids.Check(l) && (ok || len(y) != 0) {
				t.Errorf("%s: the item of no right set is taken: %s", x.name, short(y))
			}
		}
	}
}

func number(v uint64) api.Item { return api.Item{Kind: api.KNum, N: v} }

// listOf is an item with these numbers.
func listOf(l ...uint64) api.Item {
	x := api.Item{Kind: api.KList}
	for _, v := range l {
		x.L = append(x.L, number(v))
	}
	return x
}

// itemOf is the item of ids, whatever they are.
func itemOf(l []api.Id) api.Item {
	var v []uint64
	for _, i := range l {
		v = append(v, uint64(i.R), uint64(i.N))
	}
	return listOf(v...)
}

// P5.2: the items of right sets, written out, and their forms.
func TestItem(t *testing.T) {
	for _, c := range []struct {
		l    []api.Id
		want api.Item
		form string
	}{
		{nil, listOf(), "\x02\x00"},
		{[]api.Id{}, listOf(), "\x02\x00"},
		{[]api.Id{id(2, 17)}, listOf(2, 17), "\x02\x02\x00\x02\x00\x11"},
		{[]api.Id{id(1, 3), id(0, 4)}, listOf(1, 3, 0, 4), "\x02\x04\x00\x01\x00\x03\x00\x00\x00\x04"},
		{[]api.Id{id(0, 0), id(6, most)}, listOf(0, 0, 6, most), "\x02\x04\x00\x00\x00\x00\x00\x06\x00\xfd\x01\x00\x00\x00\x00\x00"},
	} {
		x := ids.Item(c.l)
		if !codec.Same(x, c.want) {
			t.Errorf("Item(%v) is %v", c.l, x)
		}
		if b, e := codec.Put(x); e != api.OK || string(b) != c.form {
			t.Errorf("the form of Item(%v) is % x, %v", c.l, b, e)
		}
	}
}

// P5.2: what has an item is taken as it was, from the item's form too.
func TestItemAndTake(t *testing.T) {
	rightOnes, _ := lists()
	for _, l := range subsets(union(few(), []api.Id{id(0, 0), id(5, most)})) {
		rightOnes = append(rightOnes, named{fmt.Sprint(l), l})
	}
	r := rand.New(rand.NewSource(7))
	for range 300 {
		var l []api.Id
		for range r.Intn(300) {
			l = append(l, id(r.Intn(7), r.Intn(1<<uint(1+r.Intn(40)))))
		}
		rightOnes = append(rightOnes, named{"some ids", union(l)})
	}
	for _, x := range rightOnes {
		item := ids.Item(x.l)
		if !codec.Same(item, itemOf(x.l)) {
			t.Errorf("%s: not the item", x.name)
		}
		l, ok := ids.Take(item)
		if !ok {
			t.Errorf("%s: its item isn't taken", x.name)
		}
		wantList(t, x.name, l, x.l)
		b, e := codec.Put(item)
		again, e2, _ := codec.Get(b)
		if l, ok = ids.Take(again); e != api.OK || e2 != api.OK || !ok || !slices.Equal(l, x.l) {
			t.Errorf("%s: %v, %v, by its form %s, %v", x.name, e, e2, short(l), ok)
		}
	}
}

func wantNone(t *testing.T, name string, x api.Item) {
	t.Helper()
	if l, ok := ids.Take(x); ok || len(l) != 0 {
		t.Errorf("%s: taken as %s, %v", name, short(l), ok)
	}
}

// P5.2: items that are none of a right set's.
func TestTakeOfNone(t *testing.T) {
	wantNone(t, "the zero item", api.Item{})
	for _, v := range []uint64{0, 1, 2, math.MaxUint64} {
		wantNone(t, "a number", number(v))
		wantNone(t, "one number in a list", listOf(v))
		wantNone(t, "an odd number of items", listOf(1, 3, v))
	}
	for _, s := range []string{"", "1.3", "\x00\xff", strings.Repeat("1", 5000)} {
		wantNone(t, "a text", codec.Text(s))
	}
	for _, n := range []int{1, 3, 99, 2*4096 - 1, 2*4096 + 1} {
		x := itemOf(row(4098))
		x.L = x.L[:n]
		wantNone(t, fmt.Sprintf("%d items", n), x)
	}
	for _, v := range []uint64{7, 8, most, 1 << 32, 1<<32 + 1, 1 << 63, 1<<63 + 1, math.MaxUint64, math.MaxUint64 - 1} {
		wantNone(t, "R too great", listOf(v, 3))
		wantNone(t, "a last R too great", listOf(0, 1, v, 3))
		wantNone(t, "a first R too great", listOf(v, 1, 0, 3))
	}
	for _, v := range []uint64{most + 1, 1 << 41, 1<<40 + 1<<32, 1 << 63, 1<<63 + 3, math.MaxUint64, math.MaxUint64 - 3} {
		wantNone(t, "N too great", listOf(3, v))
		wantNone(t, "a last N too great", listOf(0, 1, 3, v))
		wantNone(t, "a first N too great", listOf(3, v, 0, 3))
	}
	_, wrongOnes := lists()
	for _, x := range wrongOnes {
		wantNone(t, x.name, itemOf(x.l))
	}
	wantNone(t, "a set of lists of two", codec.List(listOf(1, 3), listOf(0, 4)))
	wantNone(t, "a set in a list", codec.List(listOf(1, 3)))
}

// P5.2: a part that is no number, or has what a number doesn't have, at each place.
func TestTakeOfWrongParts(t *testing.T) {
	deep := listOf(0)
	for range 100000 {
		deep = api.Item{Kind: api.KList, L: []api.Item{deep}}
	}
	for at := range 4 {
		for name, part := range map[string]func(v uint64) api.Item{
			"a text":               func(uint64) api.Item { return codec.Text("") },
			"a text of digits":     func(uint64) api.Item { return codec.Text("3") },
			"a text with a number": func(v uint64) api.Item { return api.Item{Kind: api.KText, N: v} },
			"a list":               func(uint64) api.Item { return codec.List() },
			"a list of a number":   func(v uint64) api.Item { return listOf(v) },
			"a list with a number": func(v uint64) api.Item { return api.Item{Kind: api.KList, N: v} },
			"a list within many":   func(uint64) api.Item { return deep },
			"kind 3":               func(v uint64) api.Item { return api.Item{Kind: 3, N: v} },
			"kind -1":              func(v uint64) api.Item { return api.Item{Kind: -1, N: v} },
			"a number with a text": func(v uint64) api.Item { return api.Item{Kind: api.KNum, N: v, S: "a"} },
			"a number with a list": func(v uint64) api.Item { return api.Item{Kind: api.KNum, N: v, L: []api.Item{{}}} },
		} {
			x := listOf(1, 3, 0, 4)
			x.L[at] = part(x.L[at].N)
			wantNone(t, fmt.Sprintf("%s at %d", name, at), x)
		}
	}
	for _, l := range [][]uint64{nil, {1, 3}, {1, 3, 0, 4}} {
		for name, wrong := range map[string]func(x *api.Item){
			"a number":           func(x *api.Item) { x.Kind = api.KNum },
			"a text":             func(x *api.Item) { x.Kind = api.KText },
			"kind 3":             func(x *api.Item) { x.Kind = 3 },
			"kind -1":            func(x *api.Item) { x.Kind = -1 },
			"a list with a N":    func(x *api.Item) { x.N = 1 },
			"a list with a text": func(x *api.Item) { x.S = "a" },
		} {
			x := listOf(l...)
			wrong(&x)
			wantNone(t, fmt.Sprintf("%s, of %v", name, l), x)
		}
	}
}

// P5.2: just MaxDeps ids, and one more.
func TestTakeLimit(t *testing.T) {
	if l, ok := ids.Take(itemOf(row(4096))); !ok || !slices.Equal(l, row(4096)) {
		t.Errorf("4096 ids: %s, %v", short(l), ok)
	}
	wantNone(t, "4097 ids", itemOf(row(4097)))
	if l, ok := ids.Take(listOf()); !ok || len(l) != 0 {
		t.Errorf("the empty list: %v, %v", l, ok)
	}
	if l, ok := ids.Take(api.Item{Kind: api.KList, L: []api.Item{}}); !ok || len(l) != 0 {
		t.Errorf("the empty list, not nil: %v, %v", l, ok)
	}
}

// R1: what is above the limit is refused ahead of making as much of it.
func TestNothingAboveTheLimitIsMade(t *testing.T) {
	l := row(1 << 18)
	x := itemOf(l)
	var before, behind runtime.MemStats
	runtime.ReadMemStats(&before)
	_, ok := ids.Take(x)
	y, z := ids.Check(l), ids.Item(l)
	runtime.ReadMemStats(&behind)
	if ok || y || len(z.L) > 2*4096 {
		t.Error("a set above the limit")
	}
	if made := behind.TotalAlloc - before.TotalAlloc; made > 1<<20 {
		t.Errorf("%d bytes of memory for what is refused", made)
	}
}

// over writes other ids over all of l, and behind it as far as its memory goes.
func over(l []api.Id) {
	l = l[:cap(l)]
	for at := range l {
		l[at] = id(-9, -9)
	}
}

// room is l with more memory behind it, which holds ids that nobody else has.
func room(l []api.Id) []api.Id {
	all := append(slices.Clone(l), id(-7, -7), id(-7, -6), id(-7, -5))
	return all[:len(l)]
}

func untouched(l, was []api.Id) bool {
	behind := l[len(l) : len(l)+3]
	return slices.Equal(l, was) && slices.Equal(behind, []api.Id{id(-7, -7), id(-7, -6), id(-7, -5)})
}

// P5.3, R4: what is handed in stays, with what lies behind it; what is answered is new memory, from both sides.
func TestMemory(t *testing.T) {
	calls := map[string]func(a, b []api.Id) []api.Id{
		"Set":     func(a, _ []api.Id) []api.Id { return ids.Set(a) },
		"Join":    ids.Join,
		"Join 2":  func(a, b []api.Id) []api.Id { return ids.Join(b, a) },
		"itself":  func(a, _ []api.Id) []api.Id { return ids.Join(a, a) },
		"Without": func(a, _ []api.Id) []api.Id { return ids.Without(a, id(1, 3)) },
		"no such": func(a, _ []api.Id) []api.Id { return ids.Without(a, id(3, 77)) },
	}
	sets := [][]api.Id{nil, {id(1, 3)}, {id(2, 0), id(0, 4)}, few(), row(40), row(4096), turned(few()), slices.Concat(few(), few())}
	for name, call := range calls {
		for _, a := range sets {
			for _, b := range sets {
				x, y := room(a), room(b)
				got := call(x, y)
				was := slices.Clone(got)
				second := call(x, y)
				if !untouched(x, a) || !untouched(y, b) {
					t.Fatalf("%s(%s, %s) changed what it was handed", name, short(a), short(b))
				}
				over(second)
				if !untouched(x, a) || !untouched(y, b) || !slices.Equal(got, was) {
					t.Fatalf("%s(%s, %s): writing over the answer changed something", name, short(a), short(b))
				}
				over(x)
				over(y)
				if !slices.Equal(got, was) {
					t.Fatalf("%s(%s, %s): the answer changed with what was handed in", name, short(a), short(b))
				}
			}
		}
	}
}

// P5.3, R4: calls that tell of lists leave them as they are.
func TestAskingChangesNothing(t *testing.T) {
	_, wrongOnes := lists()
	for _, x := range append(wrongOnes, named{"few", few()}, named{"nil", nil}, named{"4096", row(4096)}) {
		a, b := room(x.l), room(x.l)
		ids.Check(a)
		ids.Has(a, id(1, 3))
		ids.Has(a, id(-7, -7))
		ids.Item(a)
		if !ids.Equal(a, b) || !untouched(a, x.l) || !untouched(b, x.l) {
			t.Errorf("%s: a call changed it", x.name)
		}
	}
	if ids.Has(room(few()), id(-7, -7)) || len(ids.Without(room(nil), id(-7, -7))) != 0 || !ids.Check(room(few())) {
		t.Error("what lies behind a list's length was read")
	}
}

// P5.3, R4: items and sets share no memory.
func TestItemMemory(t *testing.T) {
	for _, set := range [][]api.Id{{id(1, 3)}, few(), row(4096)} {
		l := room(set)
		x, second := ids.Item(l), ids.Item(l)
		parts := second.L[:cap(second.L)]
		for at := range parts {
			parts[at] = codec.Text("over")
		}
		if !untouched(l, set) || !codec.Same(x, itemOf(set)) {
			t.Error("writing over an item changed something")
		}
		over(l)
		if !codec.Same(x, itemOf(set)) {
			t.Error("an item changed with its set")
		}
		got, _ := ids.Take(x)
		other, ok := ids.Take(x)
		over(other)
		if !ok || !codec.Same(x, itemOf(set)) || !slices.Equal(got, set) {
			t.Error("writing over a set changed something")
		}
		parts = append(x.L, codec.Text("behind"))
		y := api.Item{Kind: api.KList, L: parts[:len(x.L)]}
		if l, ok := ids.Take(y); !ok || !slices.Equal(l, set) || !codec.Same(parts[len(x.L)], codec.Text("behind")) {
			t.Error("what lies behind an item's parts was touched")
		}
		for at := range x.L {
			x.L[at] = codec.Text("over")
		}
		if !slices.Equal(got, set) {
			t.Error("a set changed with the item that it was taken from")
		}
	}
}

// P5.2, P1: of any bytes, what is taken is a right set whose item that is.
func FuzzTake(f *testing.F) {
	for _, x := range []api.Item{listOf(), listOf(2, 17), listOf(1, 3, 0, 4), listOf(0, 4, 1, 3), listOf(7, 1), listOf(1), codec.Text("a")} {
		b, _ := codec.Put(x)
		f.Add(b)
	}
	f.Fuzz(func(t *testing.T, b []byte) {
		x, _, _ := codec.Get(b)
		l, ok := ids.Take(x)
		if ok && (!checked(l) || !codec.Same(itemOf(l), x)) || !ok && len(l) != 0 {
			t.Errorf("% x: taken as %s, %v", b, short(l), ok)
		}
	})
}

package attr_test

import (
	"fmt"
	"math"
	"math/rand"
	"runtime"
	"slices"
	"strings"
	"testing"

	"stonecrop/api"
	"stonecrop/attr"
	"stonecrop/codec"
)

const most = 1 << 40

func id(r, n int) api.Id { return api.Id{R: r, N: n} }

func bySeq(seq int, deps ...api.Id) api.Attr { return api.Attr{Deps: deps, Seq: seq, Tag: 1} }

func byId(deps ...api.Id) api.Attr { return api.Attr{Deps: deps, Tag: 2} }

// tagged is what is right of that tag, with these Deps.
func tagged(tag int, deps []api.Id) api.Attr {
	if tag == 1 {
		return bySeq(5, deps...)
	}
	return byId(deps...)
}

// noTags are tags that there are none of.
func noTags() []int {
	return []int{-1, 0, 3, 4, -2, 255, 256, 257, 1 << 32, 1<<32 + 1, 1<<32 + 2, 1<<63 - 1, math.MinInt, math.MinInt + 1, math.MinInt + 2}
}

// ahead, rightSet and checked are the document's words once more, by other means.
func ahead(a, b api.Id) bool {
	if a.N != b.N {
		return a.N < b.N
	}
	return a.R < b.R
}

func rightSet(l []api.Id) bool {
	if len(l) > 4096 {
		return false
	}
	for at, i := range l {
		if !slices.Contains([]int{0, 1, 2, 3, 4, 5, 6}, i.R) || i.N < 0 || i.N > most {
			return false
		}
		if at > 0 && !ahead(l[at-1], i) {
			return false
		}
	}
	return true
}

func checked(a api.Attr) api.Errno {
	least, greatest := 1, most
	if a.Tag != 1 {
		least, greatest = 0, 0
	}
	if !slices.Contains([]int{1, 2}, a.Tag) {
		return api.ErrTag
	}
	if a.Seq < least || a.Seq > greatest {
		return api.ErrRange
	}
	if !rightSet(a.Deps) {
		return api.ErrForm
	}
	return api.OK
}

// union has each id of both lists at its place.
func union(a, b []api.Id) []api.Id {
	in := map[api.Id]int{}
	for _, i := range slices.Concat(a, b) {
		in[i]++
	}
	var out []api.Id
	for i := range in {
		out = append(out, i)
	}
	slices.SortFunc(out, func(a, b api.Id) int {
		if ahead(a, b) {
			return -1
		}
		return 1
	})
	return out
}

func joined(a, b api.Attr) (api.Attr, api.Errno) {
	if checked(a) != api.OK || checked(b) != api.OK {
		return api.Attr{}, api.ErrForm
	}
	if a.Tag != b.Tag {
		return api.Attr{}, api.ErrTag
	}
	l := union(a.Deps, b.Deps)
	if len(l) > 4096 {
		return api.Attr{}, api.ErrLimit
	}
	seq := a.Seq
	if b.Seq > seq {
		seq = b.Seq
	}
	return api.Attr{Deps: l, Seq: seq, Tag: a.Tag}, api.OK
}

// alike holds all parts against each other; nil and the empty list are the same.
func alike(a, b api.Attr) bool {
	if a.Tag != b.Tag || a.Seq != b.Seq || len(a.Deps) != len(b.Deps) {
		return false
	}
	for at := range a.Deps {
		if a.Deps[at] != b.Deps[at] {
			return false
		}
	}
	return true
}

func zero(a api.Attr) bool { return alike(a, api.Attr{}) }

// row is a right set of that many ids.
func row(n int) []api.Id {
	var l []api.Id
	for k := range n {
		l = append(l, id(k%7, 3*(k/7)))
	}
	return l
}

// few ids, of the same N, of the same R, and of neither; they rise.
func few() []api.Id { return []api.Id{id(2, 0), id(0, 3), id(1, 3), id(0, 4), id(6, most)} }

func turned(l []api.Id) []api.Id {
	out := slices.Clone(l)
	slices.Reverse(out)
	return out
}

// rightSets are as a document's set is at its edges, wrongSets are lists that aren't for just one thing.
func rightSets() [][]api.Id {
	return [][]api.Id{nil, {}, {id(0, 0)}, {id(6, most)}, {id(3, 5)}, few(), row(100), row(4095), row(4096)}
}

func wrongSets() [][]api.Id {
	l := [][]api.Id{
		turned(few()), {id(0, 4), id(1, 3)}, {id(1, 3), id(0, 3)},
		{id(1, 3), id(1, 3)}, {id(2, 0), id(0, 3), id(0, 3), id(0, 4)}, append(row(50), id(0, 0)),
		row(4097), row(20000), append(row(4095), row(4095)[4094]),
	}
	for _, i := range []api.Id{id(-1, 5), id(7, 5), id(3, -1), id(3, most+1), id(math.MinInt, 5), id(math.MaxInt, 5), id(3, math.MinInt), id(3, math.MaxInt), id(1<<32, 5)} {
		l = append(l, []api.Id{i}, union([]api.Id{id(2, 0), id(2, 9)}, []api.Id{i}))
	}
	return l
}

func short(a api.Attr) string {
	if len(a.Deps) > 8 {
		return fmt.Sprintf("tag %d, seq %d, %v and so on, %d ids", a.Tag, a.Seq, a.Deps[:8], len(a.Deps))
	}
	return fmt.Sprintf("tag %d, seq %d, %v", a.Tag, a.Seq, a.Deps)
}

func wantCheck(t *testing.T, a api.Attr, want api.Errno) {
	t.Helper()
	if e := attr.Check(a); e != want {
		t.Errorf("Check of %s is %d, want %d", short(a), e, want)
	}
	if again := checked(a); again != want {
		t.Errorf("the tests' own reading of %s is %d, want %d", short(a), again, want)
	}
}

// P7.1: each tag that there is, and those that there are none of.
func TestCheckOfTags(t *testing.T) {
	for _, l := range rightSets() {
		wantCheck(t, api.Attr{Deps: l, Seq: 1, Tag: 1}, api.OK)
		wantCheck(t, api.Attr{Deps: l, Seq: 0, Tag: 2}, api.OK)
		for _, tag := range noTags() {
			for _, seq := range []int{0, 1, most} {
				wantCheck(t, api.Attr{Deps: l, Seq: seq, Tag: tag}, api.ErrTag)
			}
		}
	}
	wantCheck(t, api.Attr{}, api.ErrTag)
	if api.TagSeq != 1 || api.TagId != 2 {
		t.Error("the tags are 1 and 2")
	}
}

// P7.1: each tag's least and greatest Seq, and those just outside.
func TestCheckOfSeq(t *testing.T) {
	for _, l := range rightSets() {
		for _, x := range []struct {
			seq         int
			ofSeq, ofId api.Errno
		}{
			{math.MinInt, api.ErrRange, api.ErrRange}, {-most, api.ErrRange, api.ErrRange}, {-1, api.ErrRange, api.ErrRange},
			{0, api.ErrRange, api.OK}, {1, api.OK, api.ErrRange}, {2, api.OK, api.ErrRange}, {1 << 32, api.OK, api.ErrRange},
			{most - 1, api.OK, api.ErrRange}, {most, api.OK, api.ErrRange}, {most + 1, api.ErrRange, api.ErrRange},
			{1 << 41, api.ErrRange, api.ErrRange}, {1<<62 + 1, api.ErrRange, api.ErrRange}, {math.MaxInt, api.ErrRange, api.ErrRange},
		} {
			wantCheck(t, api.Attr{Deps: l, Seq: x.seq, Tag: 1}, x.ofSeq)
			wantCheck(t, api.Attr{Deps: l, Seq: x.seq, Tag: 2}, x.ofId)
		}
	}
}

// P7.1: Deps that are a right set, and those that aren't for one thing.
func TestCheckOfDeps(t *testing.T) {
	for _, tag := range []int{1, 2} {
		for _, l := range rightSets() {
			wantCheck(t, tagged(tag, l), api.OK)
		}
		for _, l := range wrongSets() {
			wantCheck(t, tagged(tag, l), api.ErrForm)
		}
	}
}

// P7.1: with two faults at once, and with all three, the first is told.
func TestCheckOfTwoFaults(t *testing.T) {
	fall := []api.Id{id(0, 4), id(1, 3)}
	for _, tag := range noTags() {
		for _, seq := range []int{math.MinInt, -1, most + 1, math.MaxInt} {
			wantCheck(t, api.Attr{Seq: seq, Tag: tag}, api.ErrTag)
			wantCheck(t, api.Attr{Deps: few(), Seq: seq, Tag: tag}, api.ErrTag)
			wantCheck(t, api.Attr{Deps: fall, Seq: seq, Tag: tag}, api.ErrTag)
		}
		for _, seq := range []int{0, 1, most} {
			wantCheck(t, api.Attr{Deps: fall, Seq: seq, Tag: tag}, api.ErrTag)
			wantCheck(t, api.Attr{Deps: row(4097), Seq: seq, Tag: tag}, api.ErrTag)
		}
	}
	for _, l := range wrongSets() {
		for _, seq := range []int{math.MinInt, -1, most + 1, math.MaxInt} {
			wantCheck(t, api.Attr{Deps: l, Seq: seq, Tag: 1}, api.ErrRange)
			wantCheck(t, api.Attr{Deps: l, Seq: seq, Tag: 2}, api.ErrRange)
		}
		wantCheck(t, api.Attr{Deps: l, Seq: 0, Tag: 1}, api.ErrRange)
		wantCheck(t, api.Attr{Deps: l, Seq: 1, Tag: 2}, api.ErrRange)
	}
}

func wantSame(t *testing.T, name string, a, b api.Attr, want bool) {
	t.Helper()
	if attr.Same(a, b) != want || attr.Same(b, a) != want {
		t.Errorf("%s: Same of %s and %s is %v, the other way round %v", name, short(a), short(b), attr.Same(a, b), attr.Same(b, a))
	}
}

// mixed are of all tags, numbers and lists, right or not.
func mixed() []api.Attr {
	var out []api.Attr
	for _, tag := range []int{-1, 0, 1, 2, 3, math.MaxInt} {
		for _, seq := range []int{math.MinInt, -1, 0, 1, 2, most, most + 1} {
			for _, l := range [][]api.Id{nil, {id(1, 3)}, {id(3, 1)}, few(), few()[1:], turned(few()), {id(1, 3), id(1, 3)}, {id(7, 3)}, {id(-1, math.MinInt)}} {
				out = append(out, api.Attr{Deps: l, Seq: seq, Tag: tag})
			}
		}
	}
	return out
}

// P7.1: Same of what is alike, and of what differs in one part alone, right or not.
func TestSame(t *testing.T) {
	sets := append(rightSets(), wrongSets()...)
	for _, l := range sets {
		for _, tag := range []int{-1, 0, 1, 2, 3} {
			for _, seq := range []int{-1, 0, 1, most, most + 1} {
				a := api.Attr{Deps: l, Seq: seq, Tag: tag}
				b := api.Attr{Deps: slices.Clone(l), Seq: seq, Tag: tag}
				wantSame(t, "alike", a, b, true)
				wantSame(t, "itself", a, a, true)
				b.Tag = tag + 1
				wantSame(t, "the tag alone", a, b, false)
				b.Tag, b.Seq = tag, seq+1
				wantSame(t, "the number alone", a, b, false)
				b.Seq, b.Tag = tag, seq
				wantSame(t, "number and tag turned", a, b, tag == seq)
				b = api.Attr{Deps: append(slices.Clone(l), id(6, math.MaxInt)), Seq: seq, Tag: tag}
				wantSame(t, "one id more", a, b, false)
			}
		}
		for _, at := range []int{0, len(l) / 2, len(l) - 1} {
			if len(l) == 0 {
				continue
			}
			for _, i := range []api.Id{id(l[at].R, -5), id(-5, l[at].N)} {
				other := slices.Clone(l)
				other[at] = i
				wantSame(t, "one id alone", bySeq(1, l...), bySeq(1, other...), false)
				wantSame(t, "one id alone", byId(l...), byId(other...), false)
			}
		}
	}
	wantSame(t, "no ids, nil and not", api.Attr{Seq: 1, Tag: 1}, api.Attr{Deps: []api.Id{}, Seq: 1, Tag: 1}, true)
	wantSame(t, "the zero ones", api.Attr{}, api.Attr{Deps: []api.Id{}}, true)
	wantSame(t, "numbers alike in 32 bits", bySeq(1), bySeq(1<<32+1), false)
	wantSame(t, "turned ids", byId(few()...), byId(turned(few())...), false)
	for x, a := range mixed() {
		for y, b := range mixed() {
			if attr.Same(a, b) != (x == y) {
				t.Fatalf("Same of %s and %s is %v", short(a), short(b), x != y)
			}
		}
	}
}

func wantJoin(t *testing.T, name string, a, b, want api.Attr) {
	t.Helper()
	for _, x := range [][2]api.Attr{{a, b}, {b, a}} {
		got, e := attr.Join(x[0], x[1])
		if e != api.OK || !alike(got, want) {
			t.Errorf("%s: Join of %s and %s is %s, %d, want %s", name, short(x[0]), short(x[1]), short(got), e, short(want))
		}
	}
}

func wantNoJoin(t *testing.T, name string, a, b api.Attr, want api.Errno) {
	t.Helper()
	for _, x := range [][2]api.Attr{{a, b}, {b, a}} {
		got, e := attr.Join(x[0], x[1])
		if e != want || !zero(got) {
			t.Errorf("%s: Join of %s and %s is %s, %d, want %d", name, short(x[0]), short(x[1]), short(got), e, want)
		}
	}
}

// P7.1: the document's example.
func TestExample(t *testing.T) {
	wantJoin(t, "1.3 with 2 and 0.4 with 5", bySeq(2, id(1, 3)), bySeq(5, id(0, 4)), bySeq(5, id(1, 3), id(0, 4)))
}

// P7.1, P7.3: Deps that share nothing, something and all, with none on either side, of both tags, both ways round.
func TestJoinOfDeps(t *testing.T) {
	a, b, c := []api.Id{id(2, 0), id(1, 3)}, []api.Id{id(0, 3), id(0, 4)}, []api.Id{id(1, 3), id(6, most)}
	for _, tag := range []int{1, 2} {
		of := func(l ...api.Id) api.Attr { return tagged(tag, l) }
		wantJoin(t, "nothing shared", of(a...), of(b...), of(id(2, 0), id(0, 3), id(1, 3), id(0, 4)))
		wantJoin(t, "something shared", of(a...), of(c...), of(id(2, 0), id(1, 3), id(6, most)))
		wantJoin(t, "all shared", of(a...), of(slices.Clone(a)...), of(a...))
		wantJoin(t, "itself", of(a...), of(a...), of(a...))
		wantJoin(t, "one in the other", of(few()...), of(a...), of(few()...))
		wantJoin(t, "one N", of(id(1, 3)), of(id(0, 3)), of(id(0, 3), id(1, 3)))
		wantJoin(t, "with nil", of(a...), of(), of(a...))
		wantJoin(t, "with the empty list", of(a...), tagged(tag, []api.Id{}), of(a...))
		wantJoin(t, "none and none", of(), tagged(tag, []api.Id{}), of())
	}
}

// P7.1: the greater Seq, on whichever side it is, whatever the Deps are.
func TestJoinOfSeq(t *testing.T) {
	for _, x := range [][3]int{{1, 1, 1}, {1, 2, 2}, {3, 9, 9}, {1, most, most}, {most - 1, most, most}, {most, most, most}, {1 << 31, 1 << 32, 1 << 32}, {5, 1 << 33, 1 << 33}} {
		wantJoin(t, "no ids", bySeq(x[0]), bySeq(x[1]), bySeq(x[2]))
		wantJoin(t, "ids with the less", bySeq(x[0], few()...), bySeq(x[1]), bySeq(x[2], few()...))
		wantJoin(t, "ids with the greater", bySeq(x[0]), bySeq(x[1], few()...), bySeq(x[2], few()...))
		wantJoin(t, "ids with both", bySeq(x[0], id(1, 3)), bySeq(x[1], id(0, 3)), bySeq(x[2], id(0, 3), id(1, 3)))
	}
}

// faulty are right but for one thing each, of all three kinds of faults.
func faulty() []api.Attr {
	l := []api.Attr{
		{}, {Tag: 3}, {Tag: -1}, {Seq: 1}, {Deps: few()}, {Deps: few(), Seq: 1, Tag: 0}, {Deps: few(), Seq: 1, Tag: 1 << 32},
		bySeq(0), bySeq(-1), bySeq(most + 1), bySeq(0, few()...), bySeq(math.MinInt), bySeq(math.MaxInt, few()...),
		{Seq: 1, Tag: 2}, {Seq: -1, Tag: 2}, {Deps: few(), Seq: 1, Tag: 2},
	}
	for _, s := range wrongSets() {
		l = append(l, bySeq(1, s...), byId(s...))
	}
	return l
}

// P7.1: what isn't right on either side and on both, with whatever tag on the other side.
func TestJoinOfWrongOnes(t *testing.T) {
	right := []api.Attr{bySeq(1), byId(), bySeq(most, few()...), byId(few()...), bySeq(1, row(4096)...), byId(row(4096)...)}
	for _, a := range faulty() {
		if checked(a) == api.OK {
			t.Fatalf("%s is right", short(a))
		}
		for _, b := range right {
			wantNoJoin(t, "one isn't right", a, b, api.ErrForm)
		}
		for _, b := range faulty() {
			wantNoJoin(t, "neither is right", a, b, api.ErrForm)
		}
		wantNoJoin(t, "itself", a, a, api.ErrForm)
	}
}

// P7.1: two tags, and two faults at once: not being right goes ahead of the tags, and these ahead of the limit.
func TestJoinOfTwoFaults(t *testing.T) {
	far := id(6, most)
	for _, l := range rightSets() {
		for _, m := range rightSets() {
			wantNoJoin(t, "two tags", bySeq(1, l...), byId(m...), api.ErrTag)
		}
	}
	wantNoJoin(t, "two tags, and too many", bySeq(1, row(4096)...), byId(far), api.ErrTag)
	wantNoJoin(t, "two tags, and too many", byId(row(4096)...), bySeq(1, far), api.ErrTag)
	wantNoJoin(t, "not right, and two tags", bySeq(0, far), byId(far), api.ErrForm)
	wantNoJoin(t, "not right, and two tags", bySeq(1, far), byId(far, far), api.ErrForm)
	wantNoJoin(t, "not right, and too many", bySeq(0, row(4096)...), bySeq(1, far), api.ErrForm)
	wantNoJoin(t, "not right, and too many", bySeq(1, row(4096)...), bySeq(0, far), api.ErrForm)
	wantNoJoin(t, "not right, for too many", byId(row(4097)...), byId(far), api.ErrForm)
	wantNoJoin(t, "not right, two tags and too many", bySeq(0, row(4096)...), byId(far), api.ErrForm)
	wantNoJoin(t, "no such tag, twice", api.Attr{Tag: 3}, api.Attr{Tag: 3}, api.ErrForm)
}

// P7.1: Deps that come to just MaxDeps ids, and to one more, however they are shared out.
func TestJoinLimit(t *testing.T) {
	for _, tag := range []int{1, 2} {
		for _, n := range []int{4095, 4096, 4097, 8192} {
			all := row(n)
			var even, odd []api.Id
			for k, i := range all {
				if k%2 == 0 {
					even = append(even, i)
				} else {
					odd = append(odd, i)
				}
			}
			half := min(n/2+1000, 4096)
			for name, x := range map[string][2][]api.Id{
				"every other one": {even, odd},
				"one behind":      {all[:n/2], all[n/2:]},
				"many in both":    {all[:half], all[n-half:]},
				"but one":         {all[1:min(n, 4097)], all[:1]},
			} {
				a, b := tagged(tag, x[0]), tagged(tag, x[1])
				want, e := joined(a, b)
				if n > 4096 && name != "but one" && e != api.ErrLimit {
					t.Fatalf("%d ids, %s: the tests' own reading is %d", n, name, e)
				}
				if e == api.OK {
					wantJoin(t, name, a, b, want)
				} else {
					wantNoJoin(t, name, a, b, e)
				}
			}
		}
		full := row(4096)
		wantJoin(t, "just 4096", tagged(tag, full[:4095]), tagged(tag, full[4095:]), tagged(tag, full))
		wantJoin(t, "4096 and one of them", tagged(tag, full), tagged(tag, full[77:78]), tagged(tag, full))
		wantJoin(t, "4096 and themselves", tagged(tag, full), tagged(tag, slices.Clone(full)), tagged(tag, full))
		wantJoin(t, "4096 and none", tagged(tag, full), tagged(tag, nil), tagged(tag, full))
		wantNoJoin(t, "4096 and one more behind", tagged(tag, full), tagged(tag, []api.Id{id(6, most)}), api.ErrLimit)
		wantNoJoin(t, "4096 and one more within", tagged(tag, full), tagged(tag, []api.Id{id(1, 1)}), api.ErrLimit)
		wantNoJoin(t, "4096 and one more ahead", tagged(tag, full[1:]), tagged(tag, []api.Id{id(0, 0), id(0, 1)}), api.ErrLimit)
	}
}

// subsets are all sets of ids of l, which rises.
func subsets(l []api.Id) [][]api.Id {
	var out [][]api.Id
	for which := range 1 << len(l) {
		var s []api.Id
		for k, i := range l {
			if which>>k&1 == 1 {
				s = append(s, i)
			}
		}
		out = append(out, s)
	}
	return out
}

// P7.1, P7.3: all pairs of few ids and numbers: it has both, and nothing else, and is right itself.
func TestJoinHasBoth(t *testing.T) {
	all := subsets(few())
	for x := range all {
		for y := range all {
			for _, seqs := range [][2]int{{1, 1}, {1, 7}, {most, 3}} {
				a, b := bySeq(seqs[0], all[x]...), bySeq(seqs[1], all[y]...)
				got, e := attr.Join(a, b)
				back, e2 := attr.Join(b, a)
				if e != api.OK || e2 != api.OK || !alike(got, back) || !alike(got, bySeq(max(seqs[0], seqs[1]), all[x|y]...)) {
					t.Fatalf("Join of %s and %s is %s, %d, the other way round %s, %d", short(a), short(b), short(got), e, short(back), e2)
				}
				for _, one := range []api.Attr{a, b} {
					if again, e := attr.Join(got, one); e != api.OK || !alike(again, got) {
						t.Fatalf("%s hasn't all of %s", short(got), short(one))
					}
				}
				if attr.Check(got) != api.OK {
					t.Fatalf("%s isn't right", short(got))
				}
			}
		}
	}
}

// P7.1, P7.3: any two, right or not, both ways round, against the tests' own reading.
func TestJoinOfAll(t *testing.T) {
	for _, a := range mixed() {
		for _, b := range mixed() {
			got, e := attr.Join(a, b)
			back, e2 := attr.Join(b, a)
			want, e3 := joined(a, b)
			if e != e3 || e2 != e3 || !alike(got, want) || !alike(back, want) {
				t.Fatalf("Join of %s and %s is %s, %d, the other way round %s, %d, want %s, %d", short(a), short(b), short(got), e, short(back), e2, short(want), e3)
			}
		}
	}
}

func number(v uint64) api.Item { return api.Item{Kind: api.KNum, N: v} }

func text(s string) api.Item { return api.Item{Kind: api.KText, S: s} }

func list(l ...api.Item) api.Item { return api.Item{Kind: api.KList, L: l} }

func idsOf(l []api.Id) api.Item {
	x := list()
	for _, i := range l {
		x.L = append(x.L, number(uint64(i.R)), number(uint64(i.N)))
	}
	return x
}

// itemOf and oldOf are the two forms, whatever is put in them.
func itemOf(a api.Attr) api.Item {
	return list(number(uint64(a.Tag)), number(uint64(a.Seq)), idsOf(a.Deps))
}

func oldOf(a api.Attr) api.Item { return list(number(uint64(a.Seq)), idsOf(a.Deps)) }

// P7.2: both forms, as bytes, written out.
func TestForms(t *testing.T) {
	for _, x := range []struct {
		a         api.Attr
		form, old string
	}{
		{bySeq(1), "\x02\x03\x00\x01\x00\x01\x02\x00", "\x02\x02\x00\x01\x02\x00"},
		{byId(), "\x02\x03\x00\x02\x00\x00\x02\x00", ""},
		{bySeq(5, id(1, 3), id(0, 4)), "\x02\x03\x00\x01\x00\x05\x02\x04\x00\x01\x00\x03\x00\x00\x00\x04", "\x02\x02\x00\x05\x02\x04\x00\x01\x00\x03\x00\x00\x00\x04"},
		{byId(id(2, 17)), "\x02\x03\x00\x02\x00\x00\x02\x02\x00\x02\x00\x11", ""},
		{bySeq(300, id(6, 1)), "\x02\x03\x00\x01\x00\xf9\x01\x2c\x02\x02\x00\x06\x00\x01", "\x02\x02\x00\xf9\x01\x2c\x02\x02\x00\x06\x00\x01"},
		{bySeq(most), "\x02\x03\x00\x01\x00\xfd\x01\x00\x00\x00\x00\x00\x02\x00", "\x02\x02\x00\xfd\x01\x00\x00\x00\x00\x00\x02\x00"},
	} {
		if b, e := codec.Put(attr.Item(x.a)); e != api.OK || string(b) != x.form {
			t.Errorf("the form of %s is % x, %d", short(x.a), b, e)
		}
		item, e := attr.Old(x.a)
		if x.old == "" {
			if e != api.ErrTag || !codec.Same(item, api.Item{}) {
				t.Errorf("%s has an old form: %v, %d", short(x.a), item, e)
			}
			continue
		}
		if b, e2 := codec.Put(item); e != api.OK || e2 != api.OK || string(b) != x.old {
			t.Errorf("the old form of %s is % x, %d, %d", short(x.a), b, e, e2)
		}
	}
}

// rightOnes are right ones of both tags, at all edges, and some that are made up.
func rightOnes() []api.Attr {
	var out []api.Attr
	r := rand.New(rand.NewSource(1))
	sets := append(rightSets(), subsets(few())...)
	for range 50 {
		var l []api.Id
		for range r.Intn(200) {
			l = append(l, id(r.Intn(7), r.Intn(1<<uint(1+r.Intn(40)))))
		}
		sets = append(sets, union(l, nil))
	}
	for _, l := range sets {
		out = append(out, byId(l...))
		for _, seq := range []int{1, 2, 1 << 32, most - 1, most, 1 + r.Intn(most)} {
			out = append(out, bySeq(seq, l...))
		}
	}
	return out
}

// byForm is the item that is read from the form of x.
func byForm(t *testing.T, x api.Item) api.Item {
	t.Helper()
	b, e := codec.Put(x)
	y, e2, _ := codec.Get(b)
	if e != api.OK || e2 != api.OK {
		t.Fatalf("an item has no form: %d, %d", e, e2)
	}
	return y
}

// P7.2, P7.3: the new form there and back, from bytes too.
func TestItemAndTake(t *testing.T) {
	for _, a := range rightOnes() {
		x := attr.Item(a)
		if !codec.Same(x, itemOf(a)) {
			t.Errorf("%s: not the item", short(a))
		}
		for _, y := range []api.Item{x, byForm(t, x)} {
			if got, ok := attr.Take(y); !ok || !alike(got, a) || !attr.Same(got, a) {
				t.Errorf("%s: taken as %s, %v", short(a), short(got), ok)
			}
			wantNone(t, "the new form, as the old one", attr.TakeOld, y)
		}
	}
}

// P7.2, P7.3: the old form there and back, from bytes too; none of TagId has one.
func TestOldAndTakeOld(t *testing.T) {
	for _, a := range rightOnes() {
		x, e := attr.Old(a)
		if a.Tag == 2 {
			if e != api.ErrTag || !codec.Same(x, api.Item{}) {
				t.Errorf("%s has an old form: %d", short(a), e)
			}
			continue
		}
		if e != api.OK || !codec.Same(x, oldOf(a)) {
			t.Errorf("%s: not the old form, %d", short(a), e)
		}
		for _, y := range []api.Item{x, byForm(t, x)} {
			if got, ok := attr.TakeOld(y); !ok || !alike(got, a) || !attr.Same(got, a) {
				t.Errorf("%s: taken as %s, %v", short(a), short(got), ok)
			}
			wantNone(t, "the old form, as the new one", attr.Take, y)
		}
	}
}

// P7.2: Old of what isn't right, of TagId too: that goes ahead.
func TestOldOfWrongOnes(t *testing.T) {
	for _, a := range faulty() {
		if x, e := attr.Old(a); e != api.ErrForm || !codec.Same(x, api.Item{}) {
			t.Errorf("Old of %s is %d", short(a), e)
		}
	}
}

func wantNone(t *testing.T, name string, take func(api.Item) (api.Attr, bool), x api.Item) {
	t.Helper()
	if a, ok := take(x); ok || !zero(a) {
		t.Errorf("%s: taken as %s, %v", name, short(a), ok)
	}
}

func wantNeither(t *testing.T, name string, x api.Item) {
	t.Helper()
	wantNone(t, name+", by Take", attr.Take, x)
	wantNone(t, name+", by TakeOld", attr.TakeOld, x)
}

// wholes are right items in both forms.
func wholes() []api.Item {
	return []api.Item{
		itemOf(bySeq(1)), itemOf(byId()), itemOf(bySeq(2, few()...)), itemOf(byId(few()...)), itemOf(bySeq(1, id(0, 0))),
		oldOf(bySeq(1)), oldOf(bySeq(2)), oldOf(bySeq(2, few()...)), oldOf(bySeq(1, id(0, 0))),
	}
}

// copied is x with memory of its own.
func copied(x api.Item) api.Item {
	x.L = slices.Clone(x.L)
	for at := range x.L {
		x.L[at] = copied(x.L[at])
	}
	return x
}

// P7.2: what is no list, and lists with fewer items and with more.
func TestTakeOfOtherItems(t *testing.T) {
	wantNeither(t, "the zero item", api.Item{})
	for _, v := range []uint64{0, 1, 2, 3, most, math.MaxUint64} {
		wantNeither(t, "a number", number(v))
		wantNeither(t, "a list of a number", list(number(v)))
	}
	for _, s := range []string{"", "1", "\x02\x03", strings.Repeat("a", 5000)} {
		wantNeither(t, "a text", text(s))
		wantNeither(t, "a list of a text", list(text(s)))
	}
	wantNeither(t, "an empty list", list())
	wantNeither(t, "an empty list, not nil", list([]api.Item{}...))
	wantNeither(t, "many items", api.Item{Kind: api.KList, L: make([]api.Item, 100000)})
	for _, x := range wholes() {
		for n := range len(x.L) {
			wantNeither(t, fmt.Sprintf("the first %d items", n), list(x.L[:n]...))
		}
		wantNeither(t, "the last item alone", list(x.L[len(x.L)-1]))
		for _, more := range []api.Item{number(0), number(1), text(""), list()} {
			wantNeither(t, "one item more, behind", list(append(slices.Clone(x.L), more)...))
			wantNeither(t, "two items more, ahead", list(append([]api.Item{number(1), more}, x.L...)...))
		}
		wantNeither(t, "one number too many", list(append([]api.Item{number(1), number(1)}, x.L...)...))
		wantNeither(t, "twice", list(slices.Concat(x.L, x.L)...))
		wantNeither(t, "in a list", list(x))
		back := copied(x)
		slices.Reverse(back.L)
		wantNeither(t, "turned", back)
	}
	wantNeither(t, "the ids, not in a list", list(number(1), number(1), number(1), number(3)))
	wantNeither(t, "the ids, not in a list", list(number(1), number(1), number(3)))
	wantNeither(t, "the ids, each in a list", list(number(1), number(1), list(list(number(1), number(3)))))
}

// wrongParts are what may stand instead of a part, with what was there.
func wrongParts(was api.Item) map[string]api.Item {
	deep := number(0)
	for range 10000 {
		deep = list(deep)
	}
	l := map[string]api.Item{
		"a text":             text(""),
		"a text with its":    {Kind: api.KText, N: was.N, L: was.L},
		"a list of it":       list(was),
		"a list within many": deep,
		"kind 3":             {Kind: 3, N: was.N, L: was.L},
		"kind -1":            {Kind: -1, N: was.N, L: was.L},
		"it, and a text":     {Kind: was.Kind, N: was.N, L: was.L, S: "a"},
	}
	if was.Kind == api.KNum {
		l["a list"] = list()
		l["a list with its number"] = api.Item{Kind: api.KList, N: was.N}
		l["a text of digits"] = text(fmt.Sprint(was.N))
		l["a number and a list"] = api.Item{N: was.N, L: []api.Item{{}}}
		return l
	}
	l["a number"] = number(0)
	l["a number of 1"] = number(1)
	l["a number with its list"] = api.Item{Kind: api.KNum, L: was.L}
	l["a list and a number"] = api.Item{Kind: api.KList, N: 1, L: was.L}
	return l
}

// P7.2: at each place what is no number, or no list, or has what such a one doesn't have; so the whole.
func TestTakeOfWrongParts(t *testing.T) {
	for _, x := range wholes() {
		for at := range x.L {
			for name, part := range wrongParts(x.L[at]) {
				y := copied(x)
				y.L[at] = part
				wantNeither(t, fmt.Sprintf("%s at %d of %d", name, at, len(x.L)), y)
			}
		}
		for at := range x.L[len(x.L)-1].L {
			for name, part := range wrongParts(x.L[len(x.L)-1].L[at]) {
				y := copied(x)
				y.L[len(x.L)-1].L[at] = part
				wantNeither(t, fmt.Sprintf("%s at %d of the ids", name, at), y)
			}
		}
		for name, part := range wrongParts(x) {
			if name == "a text" || name == "a list within many" {
				continue
			}
			wantNeither(t, name+", the whole", part)
		}
	}
}

// P7.2: numbers too great, those that go round to small ones among them.
func TestTakeOfGreatNumbers(t *testing.T) {
	great := []uint64{most + 1, 1 << 41, 1<<40 + 1<<32, 1 << 62, 1<<63 - 1, 1 << 63, 1<<63 + 1, 1<<63 + 2, math.MaxUint64 - 1, math.MaxUint64}
	for _, x := range wholes() {
		for at := range len(x.L) - 1 {
			for _, v := range great {
				y := copied(x)
				y.L[at].N = v
				wantNeither(t, fmt.Sprintf("%d at %d of %d", v, at, len(x.L)), y)
			}
		}
		deps := len(x.L) - 1
		for at := range x.L[deps].L {
			for _, v := range great {
				y := copied(x)
				y.L[deps].L[at].N = v
				wantNeither(t, fmt.Sprintf("%d at %d of the ids", v, at), y)
			}
		}
	}
	for _, v := range []uint64{0, 3, 4, 255, 256, 257, 1<<32 + 1, 1<<32 + 2, 1<<48 + 1} {
		for _, seq := range []uint64{0, 1} {
			wantNeither(t, fmt.Sprintf("tag %d", v), list(number(v), number(seq), idsOf(few())))
		}
	}
	for _, v := range []uint64{7, 8, 1 << 32, 1<<32 + 1} {
		wantNeither(t, "R too great", list(number(2), number(0), list(number(v), number(3))))
		wantNeither(t, "R too great", list(number(1), list(number(v), number(3))))
	}
}

// P7.2: items of what isn't right, in both forms; Item of these is none's either.
func TestTakeOfWrongOnes(t *testing.T) {
	for _, a := range faulty() {
		wantNone(t, short(a), attr.Take, itemOf(a))
		wantNeither(t, "Item of "+short(a), attr.Item(a))
		if a.Tag == 1 {
			wantNone(t, short(a)+", in the old form", attr.TakeOld, oldOf(a))
		}
	}
	for _, l := range append(rightSets(), wrongSets()...) {
		for _, seq := range []uint64{0, most + 1, math.MaxUint64} {
			wantNone(t, "a number outside", attr.Take, list(number(1), number(seq), idsOf(l)))
			wantNone(t, "a number outside, in the old form", attr.TakeOld, list(number(seq), idsOf(l)))
		}
		wantNone(t, "TagId with a number", attr.Take, list(number(2), number(1), idsOf(l)))
	}
	for _, n := range []int{1, 3, 99, 2*4096 - 1, 2*4096 + 1} {
		deps := idsOf(row(4098))
		deps.L = deps.L[:n]
		wantNeither(t, "an odd number of numbers", list(number(1), number(1), deps))
		wantNeither(t, "an odd number of numbers", list(number(1), deps))
	}
}

// P7.2: just MaxDeps ids, and one more, in both forms.
func TestTakeLimit(t *testing.T) {
	for _, a := range []api.Attr{bySeq(most, row(4096)...), byId(row(4096)...), bySeq(1), byId()} {
		if got, ok := attr.Take(itemOf(a)); !ok || !alike(got, a) {
			t.Errorf("%s: taken as %s, %v", short(a), short(got), ok)
		}
	}
	for _, a := range []api.Attr{bySeq(most, row(4096)...), bySeq(1)} {
		if got, ok := attr.TakeOld(oldOf(a)); !ok || !alike(got, a) {
			t.Errorf("%s: taken as %s, %v", short(a), short(got), ok)
		}
	}
	wantNone(t, "4097 ids", attr.Take, itemOf(bySeq(1, row(4097)...)))
	wantNone(t, "4097 ids", attr.Take, itemOf(byId(row(4097)...)))
	wantNone(t, "4097 ids", attr.TakeOld, oldOf(bySeq(1, row(4097)...)))
}

// P7.1, P7.2, P7.3: all edges at once, against the tests' own reading: what is right is taken as it was, and nothing else.
func TestAllAtOnce(t *testing.T) {
	n := 0
	for _, a := range mixed() {
		e := checked(a)
		if e == api.OK {
			n++
		}
		if attr.Check(a) != e {
			t.Errorf("Check of %s is %d, want %d", short(a), attr.Check(a), e)
		}
		got, ok := attr.Take(itemOf(a))
		if ok != (e == api.OK) || ok && !alike(got, a) || !ok && !zero(got) {
			t.Errorf("the item of %s is taken as %s, %v", short(a), short(got), ok)
		}
		old := a
		old.Tag = 1
		got, ok = attr.TakeOld(oldOf(a))
		if ok != (checked(old) == api.OK) || ok && !alike(got, old) || !ok && !zero(got) {
			t.Errorf("the old form of %s is taken as %s, %v", short(a), short(got), ok)
		}
	}
	if n < 10 {
		t.Errorf("only %d are right", n)
	}
}

// R1: what is above the limits is refused ahead of making as much of it.
func TestNothingAboveTheLimitIsMade(t *testing.T) {
	a, b := byId(row(1<<18)...), bySeq(1, row(1<<18)...)
	x, y := itemOf(a), oldOf(b)
	full, more := row(8192)[:4096], row(8192)[4096:]
	var before, behind runtime.MemStats
	runtime.ReadMemStats(&before)
	e := attr.Check(a)
	item := attr.Item(a)
	_, e2 := attr.Old(b)
	_, e3 := attr.Join(a, a)
	_, ok := attr.Take(x)
	_, ok2 := attr.TakeOld(y)
	_, e4 := attr.Join(byId(full...), byId(more...))
	runtime.ReadMemStats(&behind)
	if e != api.ErrForm || e2 != api.ErrForm || e3 != api.ErrForm || e4 != api.ErrLimit || ok || ok2 || len(item.L) != 0 {
		t.Errorf("above the limit: %d, %d, %d, %d, %v, %v", e, e2, e3, e4, ok, ok2)
	}
	if made := behind.TotalAlloc - before.TotalAlloc; made > 4096*16 {
		t.Errorf("%d bytes of memory for what is refused", made)
	}
}

// over writes other things over all of l, and behind it as far as its memory goes.
func over(l []api.Id) {
	l = l[:cap(l)]
	for at := range l {
		l[at] = id(-9, -9)
	}
}

func overItem(x api.Item) {
	l := x.L[:cap(x.L)]
	for at := range l {
		overItem(l[at])
		l[at] = text("over")
	}
}

// room is a with more memory behind its Deps, which holds ids that nobody else has.
func room(a api.Attr) api.Attr {
	all := append(slices.Clone(a.Deps), id(-7, -7), id(-7, -6), id(-7, -5))
	a.Deps = all[:len(a.Deps)]
	return a
}

func untouched(a, was api.Attr) bool {
	behind := a.Deps[len(a.Deps) : len(a.Deps)+3]
	return alike(a, was) && slices.Equal(behind, []api.Id{id(-7, -7), id(-7, -6), id(-7, -5)})
}

// several are right or not, of few ids and of many.
func several() []api.Attr {
	return []api.Attr{
		{}, bySeq(1), byId(), bySeq(2, id(1, 3)), byId(id(1, 3)), bySeq(5, few()...), byId(few()...), bySeq(most, row(4096)...), byId(row(4096)...),
		bySeq(0, few()...), bySeq(3, turned(few())...), byId(row(4097)...), {Deps: few(), Tag: 3},
	}
}

// P7.3, R4, R6: asking changes nothing, with what lies behind it, and is answered the same each time.
func TestAskingChangesNothing(t *testing.T) {
	for _, one := range several() {
		for _, other := range several() {
			a, b := room(one), room(other)
			e, same, x := attr.Check(a), attr.Same(a, b), attr.Item(a)
			y, e2 := attr.Old(a)
			got, e3 := attr.Join(a, b)
			if !untouched(a, one) || !untouched(b, other) {
				t.Fatalf("%s or %s was changed", short(one), short(other))
			}
			if e != checked(one) || same != alike(one, other) {
				t.Fatalf("%s and %s: what lies behind was read", short(one), short(other))
			}
			z, e4 := attr.Old(a)
			again, e5 := attr.Join(a, b)
			if attr.Check(a) != e || attr.Same(a, b) != same || !codec.Same(attr.Item(a), x) || e4 != e2 || !codec.Same(y, z) || e5 != e3 || !alike(got, again) {
				t.Fatalf("%s and %s have two answers", short(one), short(other))
			}
		}
	}
}

// P7.3, R4: what Join answers is new memory, from both sides.
func TestJoinMemory(t *testing.T) {
	for _, one := range several() {
		for _, other := range several() {
			a, b := room(one), room(other)
			got, e := attr.Join(a, b)
			want, e2 := joined(one, other)
			second, _ := attr.Join(a, b)
			over(second.Deps)
			if !untouched(a, one) || !untouched(b, other) || e != e2 || !alike(got, want) {
				t.Fatalf("%s and %s: writing over the answer changed something", short(one), short(other))
			}
			over(a.Deps)
			over(b.Deps)
			if !alike(got, want) {
				t.Fatalf("%s and %s: the answer changed with what was handed in", short(one), short(other))
			}
		}
		a := room(one)
		got, e := attr.Join(a, a)
		over(a.Deps)
		if e == api.OK && !alike(got, one) {
			t.Fatalf("%s with itself: the answer changed with it", short(one))
		}
	}
}

// P7.3, R4: items are new memory, in both forms: neither what was handed in nor another answer changes with them, nor they with it.
func TestItemMemory(t *testing.T) {
	for name, form := range map[string]struct {
		put  func(api.Attr) api.Item
		want func(api.Attr) api.Item
	}{
		"new": {attr.Item, itemOf},
		"old": {func(a api.Attr) api.Item { x, _ := attr.Old(a); return x }, oldOf},
	} {
		for _, one := range several() {
			want := api.Item{}
			if checked(one) == api.OK && (name == "new" || one.Tag == 1) {
				want = form.want(one)
			}
			a := room(one)
			x, second := form.put(a), form.put(a)
			overItem(second)
			if !untouched(a, one) || !codec.Same(x, want) || !codec.Same(form.put(a), want) {
				t.Fatalf("%s, %s: writing over an item changed something", name, short(one))
			}
			over(a.Deps)
			if !codec.Same(x, want) {
				t.Fatalf("%s, %s: its item changed with it", name, short(one))
			}
		}
	}
}

// roomItem is x with more memory behind each of its lists.
func roomItem(x api.Item) api.Item {
	n := len(x.L)
	all := append(slices.Clone(x.L), text("behind"), number(3))
	for at := range n {
		if all[at].Kind == api.KList {
			all[at] = roomItem(all[at])
		}
	}
	x.L = all[:n]
	return x
}

// behind tells whether what lies behind the lists of x is as roomItem laid it.
func behind(x api.Item) bool {
	n := len(x.L)
	more := x.L[n : n+2]
	for _, part := range x.L {
		if part.Kind == api.KList && !behind(part) {
			return false
		}
	}
	return codec.Same(more[0], text("behind")) && codec.Same(more[1], number(3))
}

// P7.3, R4: Take and TakeOld leave the item as it was, with what lies behind it; what is taken stays when the item is written over, and the other way round.
func TestTakeMemory(t *testing.T) {
	for name, form := range map[string]struct {
		take func(api.Item) (api.Attr, bool)
		put  func(api.Attr) api.Item
	}{
		"new": {attr.Take, itemOf},
		"old": {attr.TakeOld, oldOf},
	} {
		for _, one := range several() {
			if name == "old" && one.Tag != 1 {
				continue
			}
			x := roomItem(form.put(one))
			got, ok := form.take(x)
			second, _ := form.take(x)
			if ok != (checked(one) == api.OK) || !codec.Same(x, form.put(one)) || !behind(x) {
				t.Fatalf("%s, %s: taking it changed the item, or was %v", name, short(one), ok)
			}
			over(second.Deps)
			if !codec.Same(x, form.put(one)) || !behind(x) || ok && !alike(got, one) {
				t.Fatalf("%s, %s: writing over what was taken changed something", name, short(one))
			}
			overItem(x)
			if ok && !alike(got, one) || !ok && !zero(got) {
				t.Fatalf("%s, %s: what was taken changed with the item", name, short(one))
			}
		}
	}
}

// P7.2, P1: of any bytes, what is taken is a right one that has that form.
func FuzzTake(f *testing.F) {
	for _, x := range append(wholes(), number(1), text("a"), list(), itemOf(bySeq(0)), itemOf(api.Attr{Tag: 3}), oldOf(bySeq(1, id(7, 0)))) {
		b, _ := codec.Put(x)
		f.Add(b)
	}
	f.Fuzz(func(t *testing.T, b []byte) {
		x, _, _ := codec.Get(b)
		a, ok := attr.Take(x)
		if ok && (checked(a) != api.OK || !codec.Same(itemOf(a), x)) || !ok && !zero(a) {
			t.Errorf("% x: taken as %s, %v", b, short(a), ok)
		}
		a, ok = attr.TakeOld(x)
		if ok && (checked(a) != api.OK || a.Tag != 1 || !codec.Same(oldOf(a), x)) || !ok && !zero(a) {
			t.Errorf("% x: taken by its old form as %s, %v", b, short(a), ok)
		}
	})
}

// P7.1, P7.3, P1: of any two, each call against the tests' own reading.
func FuzzTwo(f *testing.F) {
	f.Add(1, 2, 1, 3, 1, 3, 1, 5, 0, 4, 0, 5)
	f.Add(2, 0, 1, 3, 0, 4, 2, 0, 0, 4, 6, most)
	f.Add(1, 0, 1, 3, 1, 3, 2, 0, 7, 4, -1, 5)
	f.Fuzz(func(t *testing.T, tag1, seq1, r1, n1, r2, n2, tag2, seq2, r3, n3, r4, n4 int) {
		a := api.Attr{Deps: []api.Id{id(r1, n1), id(r2, n2)}, Seq: seq1, Tag: tag1}
		b := api.Attr{Deps: []api.Id{id(r3, n3), id(r4, n4)}, Seq: seq2, Tag: tag2}
		if attr.Check(a) != checked(a) || attr.Same(a, b) != alike(a, b) {
			t.Errorf("%s and %s: Check is %d, Same is %v", short(a), short(b), attr.Check(a), attr.Same(a, b))
		}
		want, e := joined(a, b)
		got, e2 := attr.Join(a, b)
		if e2 != e || !alike(got, want) {
			t.Errorf("Join of %s and %s is %s, %d", short(a), short(b), short(got), e2)
		}
		if x, ok := attr.Take(attr.Item(a)); ok != (checked(a) == api.OK) || ok && !alike(x, a) {
			t.Errorf("%s: taken as %s, %v", short(a), short(x), ok)
		}
	})
}

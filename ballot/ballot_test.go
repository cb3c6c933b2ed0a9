package ballot_test

import (
	"fmt"
	"math"
	"math/rand"
	"runtime"
	"slices"
	"strings"
	"testing"

	"stonecrop/api"
	"stonecrop/ballot"
	"stonecrop/codec"
)

const most = 1 << 40

func of(round, by int) api.Ballot { return api.Ballot{Round: round, By: by} }

// rounds and bys are numbers at and beyond the bounds of Round and of By.
func rounds() []int {
	return []int{math.MinInt, math.MinInt + 1, -most, -2, -1, 0, 1, 2, 7, 1<<32 + 1, most - 1, most, most + 1, 1 << 41, math.MaxInt - 1, math.MaxInt}
}

func bys() []int {
	return []int{math.MinInt, math.MinInt + 6, -1 << 32, -7, -1, 0, 1, 5, 6, 7, 8, 256, 1 << 32, 1<<32 + 6, most, math.MaxInt - 6, math.MaxInt}
}

// edges are all ballots of these numbers.
func edges() []api.Ballot {
	var l []api.Ballot
	for _, round := range rounds() {
		for _, by := range bys() {
			l = append(l, of(round, by))
		}
	}
	return l
}

// right, ahead, next and itemOf are the document's words once more, by other means.
func right(b api.Ballot) bool {
	return slices.Contains([]int{0, 1, 2, 3, 4, 5, 6}, b.By) && !(b.Round < 0 || b.Round > most)
}

func ahead(a, b api.Ballot) bool {
	return slices.Compare([]int{a.Round, a.By}, []int{b.Round, b.By}) < 0
}

func next(b api.Ballot, by int) (api.Ballot, bool) {
	if b.Round < -1 || b.Round >= most || !slices.Contains([]int{0, 1, 2, 3, 4, 5, 6}, by) {
		return of(0, 0), false
	}
	return of(b.Round+1, by), true
}

func number(v uint64) api.Item { return api.Item{Kind: 0, N: v} }

func listOf(l ...uint64) api.Item {
	x := api.Item{Kind: 2}
	for _, v := range l {
		x.L = append(x.L, number(v))
	}
	return x
}

// itemOf has the parts of any ballot, of one that isn't right too.
func itemOf(b api.Ballot) api.Item { return listOf(uint64(b.Round), uint64(b.By)) }

// P8.1: the document's example.
func TestExample(t *testing.T) {
	b := of(1, 2)
	if !ballot.Less(of(1, 0), b) || ballot.Less(b, of(1, 0)) {
		t.Error("round 1 of 2 is behind round 1 of 0")
	}
	if !ballot.Less(b, of(2, 0)) || ballot.Less(of(2, 0), b) {
		t.Error("round 1 of 2 is ahead of round 2 of 0")
	}
}

// P8.1: which ballots are right, at each bound of the Round.
func TestRightOfRounds(t *testing.T) {
	for _, c := range []struct {
		round int
		want  bool
	}{
		{math.MinInt, false}, {-most, false}, {-1, false}, {0, true}, {1, true}, {most - 1, true}, {most, true},
		{most + 1, false}, {2 * most, false}, {math.MaxInt, false},
	} {
		for by := range 7 {
			if got := ballot.Right(of(c.round, by)); got != c.want {
				t.Errorf("Right of round %d of %d is %v", c.round, by, got)
			}
		}
		for _, by := range []int{-1, 7} {
			if ballot.Right(of(c.round, by)) {
				t.Errorf("round %d of %d is right", c.round, by)
			}
		}
	}
}

// P8.1: which ballots are right, at each bound of the By.
func TestRightOfBys(t *testing.T) {
	for _, c := range []struct {
		by   int
		want bool
	}{
		{math.MinInt, false}, {-7, false}, {-1, false}, {0, true}, {1, true}, {2, true}, {3, true}, {4, true}, {5, true}, {6, true},
		{7, false}, {8, false}, {1 << 32, false}, {1<<32 + 1, false}, {math.MaxInt, false},
	} {
		for _, round := range []int{0, 1, 5, most - 1, most} {
			if got := ballot.Right(of(round, c.by)); got != c.want {
				t.Errorf("Right of round %d of %d is %v", round, c.by, got)
			}
		}
		for _, round := range []int{-1, most + 1} {
			if ballot.Right(of(round, c.by)) {
				t.Errorf("round %d of %d is right", round, c.by)
			}
		}
	}
}

// P8.1: Right of all edges with each other.
func TestRightOfAll(t *testing.T) {
	count := 0
	for _, b := range edges() {
		got := ballot.Right(b)
		if got != right(b) {
			t.Errorf("Right(%v) is %v", b, got)
		}
		if got {
			count++
		}
	}
	if count != 7*4 {
		t.Errorf("%d of the edges are right", count)
	}
	if !ballot.Right(api.Ballot{}) {
		t.Error("the zero ballot is the first one of 0")
	}
}

// P8.1: the order, by what differs in the Round alone, in the By alone, and in both, each way round.
func TestLess(t *testing.T) {
	for _, c := range []struct{ a, b api.Ballot }{
		{of(0, 3), of(1, 3)}, {of(most-1, 0), of(most, 0)}, {of(-1, 3), of(0, 3)}, {of(most, 3), of(most+1, 3)}, {of(math.MinInt, 0), of(math.MaxInt, 0)},
		{of(5, 0), of(5, 1)}, {of(5, 5), of(5, 6)}, {of(5, -1), of(5, 0)}, {of(5, 6), of(5, 7)}, {of(0, math.MinInt), of(0, math.MaxInt)},
		{of(1, 2), of(3, 4)}, {of(1, 4), of(3, 2)}, {of(0, 6), of(1, 0)}, {of(9, 2), of(10, 1)}, {of(-1, math.MaxInt), of(0, math.MinInt)},
		{of(math.MinInt, math.MaxInt), of(math.MaxInt, math.MinInt)}, {of(math.MinInt, math.MinInt), of(math.MaxInt, math.MaxInt)},
	} {
		if !ballot.Less(c.a, c.b) {
			t.Errorf("%v isn't ahead of %v", c.a, c.b)
		}
		if ballot.Less(c.b, c.a) {
			t.Errorf("%v is ahead of %v", c.b, c.a)
		}
	}
}

// P8.1, P8.2: of two that aren't the same just one is ahead, of the same none, right or not.
func TestLessOfAll(t *testing.T) {
	for _, a := range edges() {
		if ballot.Less(a, of(a.Round, a.By)) {
			t.Errorf("%v is ahead of itself", a)
		}
		for _, b := range edges() {
			if got := ballot.Less(a, b); got != ahead(a, b) {
				t.Errorf("Less(%v, %v) is %v", a, b, got)
			}
			if a != b && ballot.Less(a, b) == ballot.Less(b, a) {
				t.Errorf("of %v and %v not just one is ahead", a, b)
			}
		}
	}
}

// P8.1: what is ahead of one is ahead of all behind that one.
func TestLessGoesOn(t *testing.T) {
	var l []api.Ballot
	for _, round := range []int{math.MinInt, -1, 0, 1, most, math.MaxInt} {
		for _, by := range []int{math.MinInt, 0, 1, 6, math.MaxInt} {
			l = append(l, of(round, by))
		}
	}
	for x := range l {
		for y := range l {
			if ballot.Less(l[x], l[y]) != (x < y) {
				t.Errorf("Less(%v, %v) is %v", l[x], l[y], x >= y)
			}
		}
	}
}

// P8.1: the first one of each replica, and of numbers that are none.
func TestFirst(t *testing.T) {
	for by := range 7 {
		b := ballot.First(by)
		if b != of(0, by) || !ballot.Right(b) {
			t.Errorf("First(%d) is %v", by, b)
		}
		for _, round := range []int{1, 2, most} {
			for other := range 7 {
				if !ballot.Less(b, of(round, other)) {
					t.Errorf("First(%d) isn't ahead of round %d of %d", by, round, other)
				}
			}
		}
	}
	for _, by := range bys() {
		b := ballot.First(by)
		if b.Round != 0 || b.By != by {
			t.Errorf("First(%d) is %v", by, b)
		}
		if ballot.Right(b) != (0 <= by && by <= 6) {
			t.Errorf("First(%d): right is %v", by, ballot.Right(b))
		}
	}
}

func wantNext(t *testing.T, b api.Ballot, by int, want api.Ballot, right bool) {
	t.Helper()
	got, ok := ballot.Next(b, by)
	if got != want || ok != right {
		t.Errorf("Next(%v, %d) is %v, %v, want %v, %v", b, by, got, ok, want, right)
	}
}

// P8.1: Next to each replica, to the same one, and to numbers that are none.
func TestNext(t *testing.T) {
	for from := range 7 {
		for by := range 7 {
			wantNext(t, of(0, from), by, of(1, by), true)
			wantNext(t, of(1, from), by, of(2, by), true)
			wantNext(t, of(most-1, from), by, of(most, by), true)
			wantNext(t, of(most, from), by, of(0, 0), false)
		}
		for _, by := range []int{math.MinInt, -7, -1, 7, 8, 1 << 32, 1<<32 + 1, most, math.MaxInt} {
			for _, round := range []int{0, 1, most - 1, most} {
				wantNext(t, of(round, from), by, of(0, 0), false)
			}
		}
	}
	wantNext(t, of(3, 5), 2, of(4, 2), true)
}

// P8.1: it is the one that is answered that is right or isn't: of b its Round alone counts.
func TestNextOfWrongOnes(t *testing.T) {
	for _, by := range []int{0, 3, 6} {
		for _, from := range []int{math.MinInt, -1, 0, 7, math.MaxInt} {
			wantNext(t, of(-1, from), by, of(0, by), true)
			wantNext(t, of(4, from), by, of(5, by), true)
			wantNext(t, of(most-1, from), by, of(most, by), true)
			for _, round := range []int{math.MinInt, -most, -2, most, most + 1, math.MaxInt - 1, math.MaxInt} {
				wantNext(t, of(round, from), by, of(0, 0), false)
			}
		}
	}
}

// P8.1, P8.2: Next is behind, of all edges to all edges, and is right; else nothing is told.
func TestNextIsBehind(t *testing.T) {
	for _, b := range edges() {
		for _, by := range bys() {
			want, right := next(b, by)
			wantNext(t, b, by, want, right)
			got, ok := ballot.Next(b, by)
			if ok && (!ballot.Less(b, got) || ballot.Less(got, b) || !ballot.Right(got)) {
				t.Errorf("Next(%v, %d) is %v: not right, or not behind", b, by, got)
			}
			if !ok && got != (api.Ballot{}) {
				t.Errorf("Next(%v, %d): %v beside false", b, by, got)
			}
		}
	}
}

// P8.2: rounds go up one by one, to whoever asks, each behind all that were.
func TestNextOnAndOn(t *testing.T) {
	r := rand.New(rand.NewSource(1))
	for _, start := range []int{0, most - 50} {
		were := []api.Ballot{of(start, r.Intn(7))}
		for {
			last := were[len(were)-1]
			b, ok := ballot.Next(last, r.Intn(7))
			if !ok || len(were) > 60 {
				break
			}
			for _, x := range were {
				if !ballot.Less(x, b) {
					t.Fatalf("%v isn't behind %v", b, x)
				}
			}
			were = append(were, b)
		}
		if last := were[len(were)-1]; start > 0 && (last.Round != most || len(were) != 51) {
			t.Errorf("from %d on it ends at %v", start, last)
		}
	}
}

// P8.1: items and their forms, written out.
func TestForms(t *testing.T) {
	for _, c := range []struct {
		b    api.Ballot
		want api.Item
		form string
	}{
		{of(0, 0), listOf(0, 0), "\x02\x02\x00\x00\x00\x00"},
		{of(0, 6), listOf(0, 6), "\x02\x02\x00\x00\x00\x06"},
		{of(1, 2), listOf(1, 2), "\x02\x02\x00\x01\x00\x02"},
		{of(2, 1), listOf(2, 1), "\x02\x02\x00\x02\x00\x01"},
		{of(300, 5), listOf(300, 5), "\x02\x02\x00\xf9\x01\x2c\x00\x05"},
		{of(most, 0), listOf(most, 0), "\x02\x02\x00\xfd\x01\x00\x00\x00\x00\x00\x00\x00"},
		{of(most, 6), listOf(most, 6), "\x02\x02\x00\xfd\x01\x00\x00\x00\x00\x00\x00\x06"},
	} {
		x := ballot.Item(c.b)
		if !codec.Same(x, c.want) {
			t.Errorf("Item(%v) is %v", c.b, x)
		}
		if b, e := codec.Put(x); e != api.OK || string(b) != c.form {
			t.Errorf("the form of Item(%v) is % x, %v", c.b, b, e)
		}
	}
}

func wantTaken(t *testing.T, b api.Ballot) {
	t.Helper()
	x := ballot.Item(b)
	if !codec.Same(x, itemOf(b)) {
		t.Errorf("Item(%v) is %v", b, x)
	}
	if got, ok := ballot.Take(x); !ok || got != b {
		t.Errorf("%v is taken as %v, %v", b, got, ok)
	}
	form, e := codec.Put(x)
	again, e2, _ := codec.Get(form)
	if got, ok := ballot.Take(again); e != api.OK || e2 != api.OK || !ok || got != b {
		t.Errorf("%v: %v, %v, by its form %v, %v", b, e, e2, got, ok)
	}
}

// P8.2: what is put is taken as it was, of the least and the greatest, and from the item's form too.
func TestItemAndTake(t *testing.T) {
	for by := range 7 {
		for _, round := range []int{0, 1, 247, 248, 255, 256, 1<<32 - 1, 1 << 32, most - 1, most} {
			wantTaken(t, of(round, by))
		}
	}
	r := rand.New(rand.NewSource(2))
	for range 2000 {
		wantTaken(t, of(r.Intn(1<<uint(1+r.Intn(40))), r.Intn(7)))
	}
	if b, ok := ballot.Take(listOf(3, 5)); !ok || b != of(3, 5) {
		t.Errorf("the list of 3 and 5: %v, %v", b, ok)
	}
}

// P8.1: of what isn't right there is no item that is taken.
func TestItemOfWrongOnes(t *testing.T) {
	for _, b := range edges() {
		got, ok := ballot.Take(ballot.Item(b))
		if ok != right(b) || ok && got != b || !ok && got != (api.Ballot{}) {
			t.Errorf("%v is taken as %v, %v", b, got, ok)
		}
		if _, e := codec.Put(ballot.Item(b)); e != api.OK {
			t.Errorf("Item(%v) is no right item: %v", b, e)
		}
	}
}

func wantNone(t *testing.T, name string, x api.Item) {
	t.Helper()
	if b, ok := ballot.Take(x); ok || b != (api.Ballot{}) {
		t.Errorf("%s: taken as %v, %v", name, b, ok)
	}
}

// P8.1: numbers, texts, and lists with fewer items and with more.
func TestTakeOfOtherItems(t *testing.T) {
	wantNone(t, "the zero item", api.Item{})
	for _, v := range []uint64{0, 1, 2, most, math.MaxUint64} {
		wantNone(t, "a number", number(v))
		wantNone(t, "a list of one", listOf(v))
		wantNone(t, "a list of three", listOf(1, 2, v))
		wantNone(t, "a list of three, the first one too much", listOf(v, 1, 2))
		wantNone(t, "a list of four", listOf(1, 2, v, v))
	}
	for _, s := range []string{"", "1", "12", "\x01\x02", "\x00\x00", strings.Repeat("1", 5000)} {
		wantNone(t, "a text", codec.Text(s))
		wantNone(t, "a list of a text", codec.List(codec.Text(s)))
		wantNone(t, "a text behind", codec.List(number(1), number(2), codec.Text(s)))
	}
	wantNone(t, "the empty list", codec.List())
	wantNone(t, "the empty list, not nil", api.Item{Kind: 2, L: []api.Item{}})
	wantNone(t, "two empty lists", codec.List(codec.List(), codec.List()))
	wantNone(t, "a ballot in a list", codec.List(listOf(1, 2)))
	wantNone(t, "two ballots", codec.List(listOf(1, 2), listOf(1, 2)))
	wantNone(t, "a ballot and an empty list", codec.List(number(1), number(2), codec.List()))
	wantNone(t, "many items", api.Item{Kind: 2, L: make([]api.Item, 100000)})
}

// P8.1: a part that is no number, or has what a number doesn't have, at each place.
func TestTakeOfWrongParts(t *testing.T) {
	deep := listOf(0)
	for range 100000 {
		deep = api.Item{Kind: 2, L: []api.Item{deep}}
	}
	parts := map[string]func(v uint64) api.Item{
		"a text":               func(uint64) api.Item { return codec.Text("") },
		"a text of digits":     func(uint64) api.Item { return codec.Text("3") },
		"a text with a number": func(v uint64) api.Item { return api.Item{Kind: 1, N: v} },
		"a list":               func(uint64) api.Item { return codec.List() },
		"a list of a number":   func(v uint64) api.Item { return listOf(v) },
		"a list with a number": func(v uint64) api.Item { return api.Item{Kind: 2, N: v} },
		"a list within many":   func(uint64) api.Item { return deep },
		"kind 3":               func(v uint64) api.Item { return api.Item{Kind: 3, N: v} },
		"kind -1":              func(v uint64) api.Item { return api.Item{Kind: -1, N: v} },
		"a number with a text": func(v uint64) api.Item { return api.Item{N: v, S: "a"} },
		"a number with a list": func(v uint64) api.Item { return api.Item{N: v, L: []api.Item{{}}} },
	}
	for name, part := range parts {
		for _, l := range [][]uint64{{0, 0}, {1, 2}, {most, 6}} {
			for at := range 2 {
				x := listOf(l...)
				x.L[at] = part(l[at])
				wantNone(t, fmt.Sprintf("%s at %d of %v", name, at, l), x)
			}
			wantNone(t, fmt.Sprintf("%s at both of %v", name, l), api.Item{Kind: 2, L: []api.Item{part(l[0]), part(l[1])}})
		}
	}
}

// P8.1: the parts of a ballot in what is no list, or has what a list doesn't have.
func TestTakeOfWrongLists(t *testing.T) {
	for _, l := range [][]uint64{{0, 0}, {1, 2}, {most, 6}} {
		for name, wrong := range map[string]func(x *api.Item){
			"a number":           func(x *api.Item) { x.Kind = 0 },
			"a text":             func(x *api.Item) { x.Kind = 1 },
			"kind 3":             func(x *api.Item) { x.Kind = 3 },
			"kind -1":            func(x *api.Item) { x.Kind = -1 },
			"a list with an N":   func(x *api.Item) { x.N = 1 },
			"a list with a text": func(x *api.Item) { x.S = "a" },
		} {
			x := listOf(l...)
			wrong(&x)
			wantNone(t, fmt.Sprintf("%s, of %v", name, l), x)
		}
	}
}

// P8.1: numbers too great, those that go round to small ones in fewer bits among them.
func TestTakeOfGreatNumbers(t *testing.T) {
	great := []uint64{most + 1, 1 << 41, most + 1<<32, 1<<63 - 1, 1 << 63, 1<<63 + 1, 1<<63 + 3, 1<<63 + most, math.MaxUint64 - 6, math.MaxUint64 - 1, math.MaxUint64}
	for _, v := range great {
		for by := range uint64(7) {
			wantNone(t, fmt.Sprintf("round %d", v), listOf(v, by))
		}
	}
	for _, v := range append(great, 7, 8, 255, 256, 257, 1<<16, 1<<32, 1<<32+1, 1<<32+6, most-1, most) {
		for _, round := range []uint64{0, 1, 5, most} {
			wantNone(t, fmt.Sprintf("by %d", v), listOf(round, v))
		}
		for _, round := range great {
			wantNone(t, fmt.Sprintf("round %d by %d", round, v), listOf(round, v))
		}
	}
}

// P8.1: items of all edges: those of right ones are taken, all others aren't.
func TestTakeOfAll(t *testing.T) {
	for _, b := range edges() {
		if right(b) {
			wantTaken(t, b)
		} else {
			wantNone(t, fmt.Sprint(b), itemOf(b))
		}
	}
	for v := range uint64(40) {
		for w := range uint64(40) {
			got, ok := ballot.Take(listOf(v, w))
			if ok != (w < 7) || ok && got != of(int(v), int(w)) || !ok && got != (api.Ballot{}) {
				t.Errorf("the list of %d and %d: %v, %v", v, w, got, ok)
			}
		}
	}
}

// R4: whatever is handed in is as it was, with what lies behind its parts.
func TestWhatIsHandedInStays(t *testing.T) {
	for _, b := range edges() {
		a, c := b, of(b.By, b.Round)
		ballot.Right(a)
		ballot.Less(a, c)
		ballot.Less(c, a)
		ballot.Next(a, c.By)
		ballot.Item(a)
		if a != b || c != of(b.By, b.Round) {
			t.Errorf("a call changed %v", b)
		}
	}
	for _, l := range [][]uint64{nil, {0, 0}, {1, 2}, {most, 6}, {most + 1, 0}, {0, 7}, {1}, {1, 2, 3}} {
		all := append(listOf(l...).L, codec.Text("behind"), number(6))
		x := api.Item{Kind: 2, L: all[:len(l)]}
		got, ok := ballot.Take(x)
		want := len(l) == 2 && l[0] <= most && l[1] < 7
		if ok != want || ok && got != of(int(l[0]), int(l[1])) {
			t.Errorf("the list of %v: %v, %v", l, got, ok)
		}
		was := append(listOf(l...).L, codec.Text("behind"), number(6))
		if !codec.Same(api.Item{Kind: 2, L: all}, api.Item{Kind: 2, L: was}) || len(x.L) != len(l) || x.Kind != 2 {
			t.Errorf("Take changed the list of %v, or what lies behind it", l)
		}
	}
	nested := codec.List(codec.List(number(1)), codec.List(number(2), codec.Text("a")))
	ballot.Take(nested)
	if !codec.Same(nested, codec.List(codec.List(number(1)), codec.List(number(2), codec.Text("a")))) {
		t.Error("Take changed an item's inner parts")
	}
}

// R4: what is answered may be written over, and nothing else changes by it.
func TestAnswersAreNewMemory(t *testing.T) {
	for _, b := range []api.Ballot{of(0, 0), of(1, 2), of(most, 6), of(-1, 0), of(0, 7)} {
		x, second := ballot.Item(b), ballot.Item(b)
		parts := second.L[:cap(second.L)]
		for at := range parts {
			parts[at] = codec.Text("over")
		}
		if right(b) && !codec.Same(x, itemOf(b)) || !codec.Same(x, ballot.Item(b)) {
			t.Errorf("%v: writing over an item changed another one", b)
		}
		got, ok := ballot.Take(x)
		for at := range x.L {
			x.L[at] = codec.Text("over")
		}
		if ok && got != b {
			t.Errorf("%v changed with the item that it was taken from", b)
		}
	}
}

// R6: the same call has the same answer, each time.
func TestOneAnswer(t *testing.T) {
	for _, a := range edges() {
		b, ok := ballot.Next(a, 3)
		x := ballot.Item(a)
		for range 3 {
			again, ok2 := ballot.Next(a, 3)
			if again != b || ok2 != ok || ballot.Right(a) != right(a) || ballot.First(a.By) != of(0, a.By) || !codec.Same(ballot.Item(a), x) {
				t.Errorf("%v: another answer", a)
			}
		}
	}
}

// R1: of lists with more parts nothing is made ahead of the answer.
func TestLongListsAreRefusedAtOnce(t *testing.T) {
	x := api.Item{Kind: 2, L: make([]api.Item, 1<<18)}
	var before, behind runtime.MemStats
	runtime.ReadMemStats(&before)
	_, ok := ballot.Take(x)
	runtime.ReadMemStats(&behind)
	if ok {
		t.Error("a long list is taken")
	}
	if made := behind.TotalAlloc - before.TotalAlloc; made > 1<<16 {
		t.Errorf("%d bytes of memory for what is refused", made)
	}
}

// P8.1, P1: of any bytes, what is taken is a right ballot whose item that is.
func FuzzTake(f *testing.F) {
	for _, x := range []api.Item{listOf(), listOf(0, 0), listOf(1, 2), listOf(most, 6), listOf(most+1, 6), listOf(1, 7), listOf(1), listOf(1, 2, 3), codec.Text("a")} {
		b, _ := codec.Put(x)
		f.Add(b)
	}
	f.Fuzz(func(t *testing.T, b []byte) {
		x, _, _ := codec.Get(b)
		got, ok := ballot.Take(x)
		if ok && (!right(got) || !codec.Same(itemOf(got), x)) || !ok && got != (api.Ballot{}) {
			t.Errorf("% x: taken as %v, %v", b, got, ok)
		}
	})
}

// P8.1, P8.2: any two ballots, and any replica.
func FuzzTwo(f *testing.F) {
	f.Add(1, 2, 1, 0)
	f.Add(1, 2, 2, 0)
	f.Add(most, 6, most-1, 6)
	f.Add(-1, 7, math.MaxInt, math.MinInt)
	f.Fuzz(func(t *testing.T, round, by, round2, by2 int) {
		a, b := of(round, by), of(round2, by2)
		if ballot.Less(a, b) != ahead(a, b) || ballot.Less(b, a) != ahead(b, a) || ballot.Right(a) != right(a) {
			t.Errorf("%v and %v", a, b)
		}
		want, right := next(a, by2)
		wantNext(t, a, by2, want, right)
		got, ok := ballot.Take(ballot.Item(a))
		if ok != ballot.Right(a) || ok && got != a || !ok && got != (api.Ballot{}) {
			t.Errorf("%v is taken as %v, %v", a, got, ok)
		}
	})
}

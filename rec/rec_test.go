package rec_test

import (
	"fmt"
	"math"
	"math/rand"
	"runtime"
	"slices"
	"strings"
	"testing"

	"stonecrop/api"
	"stonecrop/attr"
	"stonecrop/cmd"
	"stonecrop/codec"
	"stonecrop/rec"
)

const most = 1 << 40

func id(r, n int) api.Id { return api.Id{R: r, N: n} }

func of(round, by int) api.Ballot { return api.Ballot{Round: round, By: by} }

func bySeq(seq int, deps ...api.Id) api.Attr { return api.Attr{Deps: deps, Seq: seq, Tag: 1} }

func byId(deps ...api.Id) api.Attr { return api.Attr{Deps: deps, Tag: 2} }

// few ids, of the same N, of the same R, and of neither; they rise.
func few() []api.Id { return []api.Id{id(2, 0), id(0, 3), id(1, 3), id(0, 4), id(6, most)} }

// row is a right set of that many ids; all their N are below 2000.
func row(n int) []api.Id {
	var l []api.Id
	for k := range n {
		l = append(l, id(k%7, 3*(k/7)))
	}
	return l
}

// put is a right record of that state, with a command; it isn't one of SNone.
func put(state int) api.Rec {
	return api.Rec{
		Id: id(1, 2), State: state, Bal: of(2, 1), Took: of(1, 4),
		Cmd:  api.Cmd{Kind: api.KPut, Client: 1, Seq: 1, Key: "k", Val: "v"},
		Attr: bySeq(4, few()...),
	}
}

// promise is a right record of SNone.
func promise(round, by int) api.Rec { return api.Rec{Id: id(1, 2), Bal: of(round, by)} }

// ahead, rightId, rightBallot and right are the document's words once more, by other means.
func ahead(a, b api.Ballot) bool {
	return slices.Compare([]int{a.Round, a.By}, []int{b.Round, b.By}) < 0
}

func rightId(i api.Id) bool {
	return slices.Contains([]int{0, 1, 2, 3, 4, 5, 6}, i.R) && !(i.N < 0 || i.N > most)
}

func rightBallot(b api.Ballot) bool {
	return slices.Contains([]int{0, 1, 2, 3, 4, 5, 6}, b.By) && !(b.Round < 0 || b.Round > most)
}

func right(r api.Rec) bool {
	if !rightId(r.Id) || !rightBallot(r.Bal) || !rightBallot(r.Took) || ahead(r.Bal, r.Took) {
		return false
	}
	if r.State == 0 {
		return alike(r, api.Rec{Id: r.Id, Bal: r.Bal})
	}
	return slices.Contains([]int{1, 2, 3}, r.State) && cmd.Check(r.Cmd) == api.OK && attr.Check(r.Attr) == api.OK && !slices.Contains(r.Attr.Deps, r.Id)
}

// hasOld tells whether a record that is right has an old form.
func hasOld(r api.Rec) bool { return right(r) && r.Attr.Tag != 2 && r.Cmd.Kind != 6 }

// numbersOf are all parts of a record that are numbers; the lists' lengths are among them.
func numbersOf(r api.Rec) []int {
	l := []int{
		r.Id.R, r.Id.N, r.State, r.Bal.Round, r.Bal.By, r.Took.Round, r.Took.By,
		r.Cmd.Kind, r.Cmd.Client, r.Cmd.Seq, r.Cmd.Rev, r.Attr.Tag, r.Attr.Seq, len(r.Attr.Deps),
	}
	for _, i := range r.Attr.Deps {
		l = append(l, i.R, i.N)
	}
	return l
}

func alike(a, b api.Rec) bool {
	return slices.Equal(numbersOf(a), numbersOf(b)) && a.Cmd.Key == b.Cmd.Key && a.Cmd.Val == b.Cmd.Val
}

// offered is what a record has as command, and what that hangs on, alone.
func offered(r api.Rec) api.Rec { return api.Rec{Cmd: r.Cmd, Attr: r.Attr} }

func goesOn(from, to api.Rec) bool {
	if from.Id.R != to.Id.R || from.Id.N != to.Id.N {
		return false
	}
	if ahead(to.Bal, from.Bal) || ahead(to.Took, from.Took) {
		return false
	}
	return from.State != 3 || to.State == 3 && alike(offered(from), offered(to))
}

func zero(r api.Rec) bool { return alike(r, api.Rec{}) }

func short(r api.Rec) string {
	more := ""
	if n := len(r.Attr.Deps); n > 6 {
		more = fmt.Sprintf(" and so on, %d ids", n)
		r.Attr.Deps = r.Attr.Deps[:6]
	}
	if n := len(r.Cmd.Val); n > 20 {
		more += fmt.Sprintf(", a value of %d bytes", n)
		r.Cmd.Val = r.Cmd.Val[:20]
	}
	return fmt.Sprintf("%+v%s", r, more)
}

func wantCheck(t *testing.T, name string, r api.Rec, want bool) {
	t.Helper()
	e := api.ErrForm
	if want {
		e = api.OK
	}
	if got := rec.Check(r); got != e {
		t.Errorf("%s: Check of %s is %d, want %d", name, short(r), got, e)
	}
	if right(r) != want {
		t.Errorf("%s: the tests' own reading of %s is %v", name, short(r), !want)
	}
}

// bases are right records of each state.
func bases() []api.Rec {
	return []api.Rec{promise(0, 0), promise(3, 1), put(api.SPre), put(api.SAcc), put(api.SCom)}
}

// changed is r with one thing done to it, on memory of its own.
func changed(r api.Rec, turn func(r *api.Rec)) api.Rec {
	r.Attr.Deps = slices.Clone(r.Attr.Deps)
	turn(&r)
	return r
}

// P9.1, P9.2: the document's example, with its item and its form written out; both forms are the same.
func TestExample(t *testing.T) {
	r := api.Rec{Id: id(2, 17), State: api.SNone, Bal: of(3, 1)}
	wantCheck(t, "a promise alone", r, true)
	want := list(number(2), number(17), number(0), numbers(3, 1), numbers(0, 0))
	x, old := rec.Item(r), oldOr(t, r)
	if !codec.Same(x, want) || !codec.Same(old, want) {
		t.Errorf("a promise alone is put as %v, in the old form as %v", x, old)
	}
	form, e := codec.Put(x)
	if e != api.OK || string(form) != "\x02\x05\x00\x02\x00\x11\x00\x00\x02\x02\x00\x03\x00\x01\x02\x02\x00\x00\x00\x00" {
		t.Errorf("the form is % x, %d", form, e)
	}
	wantBoth(t, r)
}

// P9.1: which Ids are right, in records of each state.
func TestCheckOfIds(t *testing.T) {
	for _, base := range bases() {
		base.Attr.Deps = nil
		for _, r := range []int{math.MinInt, -1, 0, 1, 5, 6, 7, 8, 1 << 32, 1<<32 + 1, math.MaxInt} {
			for _, n := range []int{math.MinInt, -most, -1, 0, 1, most - 1, most, most + 1, 1 << 41, math.MaxInt} {
				base.Id = id(r, n)
				wantCheck(t, "ids", base, 0 <= r && r <= 6 && 0 <= n && n <= most)
			}
		}
	}
}

// P9.1: which States there are, with what SNone has and with what the others have.
func TestCheckOfStates(t *testing.T) {
	if api.SNone != 0 || api.SPre != 1 || api.SAcc != 2 || api.SCom != 3 {
		t.Error("the states are 0 to 3")
	}
	for _, state := range []int{math.MinInt, math.MinInt + 1, -2, -1, 0, 1, 2, 3, 4, 5, 256, 257, 1 << 32, 1<<32 + 1, math.MaxInt} {
		r := put(state)
		wantCheck(t, "with a command", r, state == 1 || state == 2 || state == 3)
		r.Cmd, r.Attr = api.Cmd{}, bySeq(1)
		wantCheck(t, "with a no-op", r, state == 1 || state == 2 || state == 3)
		r = promise(3, 1)
		r.State = state
		wantCheck(t, "with nothing", r, state == 0)
	}
}

// P9.1: which ballots are right, as Bal and as Took.
func TestCheckOfBallots(t *testing.T) {
	for _, round := range []int{math.MinInt, -most, -1, 0, 1, most - 1, most, most + 1, 1 << 41, math.MaxInt} {
		for _, by := range []int{math.MinInt, -1, 0, 1, 5, 6, 7, 8, 1 << 32, math.MaxInt} {
			b := of(round, by)
			ok := 0 <= round && round <= most && 0 <= by && by <= 6
			for _, base := range bases() {
				base.Bal, base.Took = b, of(0, 0)
				wantCheck(t, "Bal", base, ok)
				if base.State == api.SNone {
					continue
				}
				base.Took = b
				wantCheck(t, "both", base, ok)
				base.Bal = of(most, 6)
				wantCheck(t, "Took", base, ok)
			}
		}
	}
}

// P9.1: Took ahead of Bal, the same, and behind it, by the Round alone, by the By alone, and by both.
func TestCheckOfTheOrderOfBallots(t *testing.T) {
	for _, c := range []struct {
		bal, took api.Ballot
		want      bool
	}{
		{of(5, 3), of(5, 3), true}, {of(0, 0), of(0, 0), true}, {of(most, 6), of(most, 6), true},
		{of(5, 3), of(4, 3), true}, {of(5, 3), of(6, 3), false}, {of(0, 3), of(1, 3), false}, {of(most, 3), of(most-1, 3), true}, {of(most-1, 3), of(most, 3), false},
		{of(5, 3), of(5, 2), true}, {of(5, 3), of(5, 4), false}, {of(0, 0), of(0, 1), false}, {of(0, 6), of(0, 5), true}, {of(most, 5), of(most, 6), false},
		{of(5, 3), of(4, 6), true}, {of(5, 3), of(6, 0), false}, {of(5, 3), of(4, 0), true}, {of(5, 3), of(6, 6), false},
		{of(1, 0), of(0, 6), true}, {of(0, 6), of(1, 0), false},
	} {
		for _, state := range []int{api.SPre, api.SAcc, api.SCom} {
			r := put(state)
			r.Bal, r.Took = c.bal, c.took
			wantCheck(t, "ballots", r, c.want)
		}
	}
}

// P9.1: SNone with one thing more than it has.
func TestCheckOfNone(t *testing.T) {
	for _, bal := range []api.Ballot{of(0, 0), of(0, 6), of(3, 1), of(most, 6)} {
		wantCheck(t, "with nothing", promise(bal.Round, bal.By), true)
		empty := promise(bal.Round, bal.By)
		empty.Attr.Deps = []api.Id{}
		wantCheck(t, "with a list without elements", empty, true)
	}
	for name, turn := range map[string]func(r *api.Rec){
		"Took's By":     func(r *api.Rec) { r.Took.By = 1 },
		"Took's Round":  func(r *api.Rec) { r.Took.Round = 1 },
		"Took is Bal":   func(r *api.Rec) { r.Took = r.Bal },
		"Took below 0":  func(r *api.Rec) { r.Took.Round = -1 },
		"Kind 1":        func(r *api.Rec) { r.Cmd.Kind = 1 },
		"Kind 6":        func(r *api.Rec) { r.Cmd.Kind = 6 },
		"Kind -1":       func(r *api.Rec) { r.Cmd.Kind = -1 },
		"Client":        func(r *api.Rec) { r.Cmd.Client = 1 },
		"the Cmd's Seq": func(r *api.Rec) { r.Cmd.Seq = 1 },
		"Key":           func(r *api.Rec) { r.Cmd.Key = "k" },
		"Val":           func(r *api.Rec) { r.Cmd.Val = "\x00" },
		"Rev":           func(r *api.Rec) { r.Cmd.Rev = 1 },
		"a whole Cmd":   func(r *api.Rec) { r.Cmd = put(1).Cmd },
		"one id":        func(r *api.Rec) { r.Attr.Deps = []api.Id{{}} },
		"many ids":      func(r *api.Rec) { r.Attr.Deps = row(4096) },
		"Seq":           func(r *api.Rec) { r.Attr.Seq = 1 },
		"Seq below 0":   func(r *api.Rec) { r.Attr.Seq = -1 },
		"TagSeq":        func(r *api.Rec) { r.Attr.Tag = 1 },
		"TagId":         func(r *api.Rec) { r.Attr.Tag = 2 },
		"Tag -1":        func(r *api.Rec) { r.Attr.Tag = -1 },
		"a right Attr":  func(r *api.Rec) { r.Attr = bySeq(1) },
		"both":          func(r *api.Rec) { r.Cmd, r.Attr = put(1).Cmd, put(1).Attr },
	} {
		for _, bal := range []api.Ballot{of(3, 1), of(1, 1), of(most, 6)} {
			r := promise(bal.Round, bal.By)
			turn(&r)
			wantCheck(t, name, r, false)
		}
	}
}

// rightCmds are of each Kind, at their edges.
func rightCmds() []api.Cmd {
	return []api.Cmd{
		{}, {Kind: api.KBarrier},
		{Kind: api.KGet, Client: 1, Seq: 1, Key: "a"},
		{Kind: api.KPut, Client: 1, Seq: 1, Key: "a"},
		{Kind: api.KPut, Client: 1 << 20, Seq: most, Key: strings.Repeat("\u03b1", 32), Val: strings.Repeat("\xff", 1024)},
		{Kind: api.KDelete, Client: 7, Seq: 300, Key: "\u65e5"},
		{Kind: api.KCas, Client: 2, Seq: 1 << 32, Key: "k", Val: "v"},
		{Kind: api.KCas, Client: 2, Seq: 3, Key: "k", Val: "", Rev: most},
		{Kind: api.KFind, Client: 3, Seq: 9}, {Kind: api.KFind, Client: 3, Seq: 9, Key: "ab"},
	}
}

// wrongCmds aren't right for one thing each.
func wrongCmds() []api.Cmd {
	return []api.Cmd{
		{Kind: -1}, {Kind: 7}, {Kind: math.MaxInt}, {Client: 1}, {Seq: 1}, {Key: "a"}, {Val: "v"}, {Rev: 1}, {Kind: api.KBarrier, Client: 1}, {Kind: api.KBarrier, Key: "a"},
		{Kind: api.KGet, Seq: 1, Key: "a"}, {Kind: api.KGet, Client: 1, Key: "a"}, {Kind: api.KGet, Client: 1, Seq: 1}, {Kind: api.KGet, Client: 1, Seq: 1, Key: "a\x1f"},
		{Kind: api.KGet, Client: 1, Seq: 1, Key: "a", Val: "v"}, {Kind: api.KPut, Client: 1, Seq: 1, Key: "a", Rev: 1},
		{Kind: api.KPut, Client: 1, Seq: 1, Key: "a", Val: strings.Repeat("v", 1025)}, {Kind: api.KPut, Client: 1, Seq: 1, Key: strings.Repeat("a", 33)},
		{Kind: api.KPut, Client: 1<<20 + 1, Seq: 1, Key: "a"}, {Kind: api.KPut, Client: -1, Seq: 1, Key: "a"}, {Kind: api.KPut, Client: 1, Seq: most + 1, Key: "a"},
		{Kind: api.KCas, Client: 1, Seq: 1, Key: "a", Rev: -1}, {Kind: api.KCas, Client: 1, Seq: 1, Key: "a", Rev: most + 1}, {Kind: api.KFind, Client: 1, Seq: 1, Key: "\xff"},
	}
}

// rightAttrs are of both tags, of no ids and of many; none has 1.2.
func rightAttrs() []api.Attr {
	return []api.Attr{
		bySeq(1), bySeq(most), {Deps: []api.Id{}, Seq: 300, Tag: 1}, bySeq(2, id(1, 3)), bySeq(5, few()...), bySeq(most, row(4096)...),
		byId(), {Deps: []api.Id{}, Tag: 2}, byId(id(0, 0)), byId(id(6, most)), byId(few()...), byId(row(4096)...),
	}
}

// wrongAttrs aren't right for one thing each.
func wrongAttrs() []api.Attr {
	fall := []api.Id{id(0, 4), id(1, 3)}
	return []api.Attr{
		{}, {Seq: 1}, {Tag: 3}, {Seq: 1, Tag: 3}, {Tag: -1}, {Seq: 1, Tag: 1 << 32}, {Deps: few()},
		bySeq(0), bySeq(-1), bySeq(most + 1), bySeq(0, few()...), bySeq(math.MaxInt), {Seq: 1, Tag: 2}, {Seq: -1, Tag: 2},
		bySeq(1, fall...), byId(fall...), bySeq(1, id(1, 3), id(1, 3)), byId(id(7, 0)), byId(id(-1, 0)), bySeq(1, id(0, most+1)), bySeq(1, id(0, -1)),
		bySeq(1, row(4097)...), byId(row(4097)...),
	}
}

// P9.1: the others with commands and what they hang on, right or not.
func TestCheckOfCmdAndAttr(t *testing.T) {
	for _, state := range []int{api.SPre, api.SAcc, api.SCom} {
		for _, a := range rightAttrs() {
			for _, c := range rightCmds() {
				r := put(state)
				r.Cmd, r.Attr = c, a
				wantCheck(t, "both right", r, true)
			}
			for _, c := range wrongCmds() {
				r := put(state)
				r.Cmd, r.Attr = c, a
				wantCheck(t, "the Cmd isn't right", r, false)
			}
		}
		for _, a := range wrongAttrs() {
			for _, c := range append(rightCmds(), wrongCmds()...) {
				r := put(state)
				r.Cmd, r.Attr = c, a
				wantCheck(t, "the Attr isn't right", r, false)
			}
		}
	}
}

// P9.1: the Id among the Deps at each place, and not among them, though its R and its N are.
func TestCheckOfTheIdAmongTheDeps(t *testing.T) {
	for _, state := range []int{api.SPre, api.SAcc, api.SCom} {
		for _, l := range [][]api.Id{{id(3, 5)}, {id(0, 0)}, {id(6, most)}, few(), row(100), row(4096)} {
			for _, a := range []api.Attr{bySeq(4, l...), byId(l...)} {
				for _, i := range l {
					r := put(state)
					r.Id, r.Attr = i, a
					wantCheck(t, "among them", r, false)
				}
				for _, i := range []api.Id{id(1, 4), id(0, 2), id(4, 3), id(0, most), id(6, most-1), id(5, 0)} {
					if slices.Contains(l, i) {
						continue
					}
					r := put(state)
					r.Id, r.Attr = i, a
					wantCheck(t, "not among them", r, true)
				}
			}
		}
		r := put(state)
		r.Attr = bySeq(1)
		wantCheck(t, "no ids", r, true)
	}
}

// turns change one part of a record alone; it has two ids or more.
func turns() map[string]func(r *api.Rec) {
	return map[string]func(r *api.Rec){
		"Id's R":        func(r *api.Rec) { r.Id.R++ },
		"Id's N":        func(r *api.Rec) { r.Id.N++ },
		"State":         func(r *api.Rec) { r.State++ },
		"State, below":  func(r *api.Rec) { r.State-- },
		"Bal's Round":   func(r *api.Rec) { r.Bal.Round++ },
		"Bal's By":      func(r *api.Rec) { r.Bal.By++ },
		"Took's Round":  func(r *api.Rec) { r.Took.Round++ },
		"Took's By":     func(r *api.Rec) { r.Took.By++ },
		"Kind":          func(r *api.Rec) { r.Cmd.Kind++ },
		"Client":        func(r *api.Rec) { r.Cmd.Client++ },
		"the Cmd's Seq": func(r *api.Rec) { r.Cmd.Seq++ },
		"Key":           func(r *api.Rec) { r.Cmd.Key += "a" },
		"Val":           func(r *api.Rec) { r.Cmd.Val += "a" },
		"Rev":           func(r *api.Rec) { r.Cmd.Rev++ },
		"Tag":           func(r *api.Rec) { r.Attr.Tag++ },
		"Seq":           func(r *api.Rec) { r.Attr.Seq++ },
		"Seq by 2^32":   func(r *api.Rec) { r.Attr.Seq += 1 << 32 },
		"the first R":   func(r *api.Rec) { r.Attr.Deps[0].R++ },
		"the last N":    func(r *api.Rec) { r.Attr.Deps[len(r.Attr.Deps)-1].N++ },
		"one id more":   func(r *api.Rec) { r.Attr.Deps = append(r.Attr.Deps, id(6, math.MaxInt)) },
		"one id fewer":  func(r *api.Rec) { r.Attr.Deps = r.Attr.Deps[:len(r.Attr.Deps)-1] },
		"no ids":        func(r *api.Rec) { r.Attr.Deps = nil },
		"ids turned":    func(r *api.Rec) { slices.Reverse(r.Attr.Deps) },
	}
}

func wantSame(t *testing.T, name string, a, b api.Rec, want bool) {
	t.Helper()
	if rec.Same(a, b) != want || rec.Same(b, a) != want {
		t.Errorf("%s: Same of %s and %s is %v, the other way round %v", name, short(a), short(b), rec.Same(a, b), rec.Same(b, a))
	}
}

// starts are records, right or not, with two ids or more, from which turns go.
func starts() []api.Rec {
	wrong := api.Rec{
		Id: id(-1, most+1), State: -4, Bal: of(-3, 9), Took: of(most+5, -1),
		Cmd: api.Cmd{Kind: 9, Client: -1, Seq: -1, Key: "\xff", Val: strings.Repeat("v", 2000), Rev: -1}, Attr: api.Attr{Deps: []api.Id{id(9, -9), id(7, -7)}, Seq: -1, Tag: 8},
	}
	none := put(api.SNone)
	many := put(api.SCom)
	many.Attr = byId(row(4096)...)
	return []api.Rec{put(api.SPre), put(api.SAcc), put(api.SCom), put(4), none, many, wrong}
}

// P9.1: Same of what is alike, and of what differs in one part alone, right or not.
func TestSame(t *testing.T) {
	for _, r := range starts() {
		wantSame(t, "alike", r, changed(r, func(*api.Rec) {}), true)
		for name, turn := range turns() {
			wantSame(t, name, r, changed(r, turn), false)
			wantSame(t, name+", both", changed(r, turn), changed(r, turn), true)
		}
	}
	for _, r := range bases() {
		r.Attr.Deps = nil
		empty := r
		empty.Attr.Deps = []api.Id{}
		wantSame(t, "nil, and a list without elements", r, empty, true)
		one := r
		one.Attr.Deps = []api.Id{{}}
		wantSame(t, "nil, and one id", r, one, false)
	}
	turned := put(api.SAcc)
	turned.Bal, turned.Took = turned.Took, turned.Bal
	wantSame(t, "Bal and Took turned", put(api.SAcc), turned, false)
	turned = put(api.SAcc)
	turned.Id = id(turned.Id.N, turned.Id.R)
	wantSame(t, "R and N turned", put(api.SAcc), turned, false)
	wantSame(t, "the zero ones", api.Rec{}, api.Rec{}, true)
}

func wantGoesOn(t *testing.T, name string, from, to api.Rec, want bool) {
	t.Helper()
	if got := rec.GoesOn(from, to); got != want {
		t.Errorf("%s: from %s to %s it is %v", name, short(from), short(to), got)
	}
	if goesOn(from, to) != want {
		t.Errorf("%s: the tests' own reading from %s to %s is %v", name, short(from), short(to), !want)
	}
}

// P9.1, P9.2: each goes on from itself, and from itself with one part turned, as that part allows.
func TestGoesOnByOnePart(t *testing.T) {
	rises := []string{"Bal's Round", "Bal's By", "Took's Round", "Took's By"}
	of := []string{"Id's R", "Id's N"}
	for _, r := range starts() {
		wantGoesOn(t, "itself", r, changed(r, func(*api.Rec) {}), true)
		for name, turn := range turns() {
			other := changed(r, turn)
			wantGoesOn(t, name+", both", other, changed(r, turn), true)
			switch {
			case slices.Contains(of, name):
				wantGoesOn(t, name, r, other, false)
				wantGoesOn(t, name, other, r, false)
			case slices.Contains(rises, name):
				wantGoesOn(t, name+" rises", r, other, true)
				wantGoesOn(t, name+" falls", other, r, false)
			default:
				wantGoesOn(t, name, r, other, r.State != 3)
				wantGoesOn(t, name+", back", other, r, other.State != 3)
			}
		}
	}
}

// P9.1: to and from each State, whatever the rest is: only SCom stays.
func TestGoesOnByStates(t *testing.T) {
	states := []int{math.MinInt, -1, 0, 1, 2, 3, 4, 1<<32 + 3, math.MaxInt}
	for _, from := range states {
		for _, to := range states {
			a, b := put(from), put(to)
			wantGoesOn(t, "alike but for the State", a, b, from != 3 || to == 3)
			b.Cmd.Val = "w"
			wantGoesOn(t, "with another Cmd", a, b, from != 3)
			b = put(to)
			b.Attr.Seq++
			wantGoesOn(t, "with another Attr", a, b, from != 3)
			b = put(to)
			b.Attr.Deps = append(b.Attr.Deps[:1:1], b.Attr.Deps[2:]...)
			wantGoesOn(t, "with other Deps", a, b, from != 3)
			b.Cmd.Kind = api.KBarrier
			wantGoesOn(t, "with another Cmd and other Deps", a, b, from != 3)
		}
	}
	a, b := put(api.SCom), put(api.SCom)
	a.Attr.Deps, b.Attr.Deps = nil, []api.Id{}
	wantGoesOn(t, "nil, and a list without elements", a, b, true)
	wantGoesOn(t, "a list without elements, and nil", b, a, true)
}

// P9.1: ballots that rise, stay and fall, by the Round, by the By and by both, of Bal and of Took, from each State to each, right or not.
func TestGoesOnByBallots(t *testing.T) {
	var ballots []api.Ballot
	for _, round := range []int{math.MinInt, -1, 0, 1, most, math.MaxInt} {
		for _, by := range []int{math.MinInt, 0, 1, 6, math.MaxInt} {
			ballots = append(ballots, of(round, by))
		}
	}
	for x, was := range ballots {
		for y, is := range ballots {
			for from := range 4 {
				for to := range 4 {
					stays := from != 3 || to == 3
					a, b := put(from), put(to)
					a.Bal, b.Bal = was, is
					wantGoesOn(t, "Bal", a, b, stays && x <= y)
					a, b = put(from), put(to)
					a.Took, b.Took = was, is
					wantGoesOn(t, "Took", a, b, stays && x <= y)
					a.Bal, b.Bal = is, was
					wantGoesOn(t, "Took, and Bal the other way", a, b, stays && x == y)
				}
			}
		}
	}
}

// pool is of records with each part in two or three ways, right or not.
func pool() []api.Rec {
	var l []api.Rec
	ballots := []api.Ballot{of(0, 5), of(1, 0), of(1, 1)}
	for _, i := range []api.Id{id(1, 2), id(2, 1)} {
		for _, state := range []int{-1, 0, 2, 3} {
			for _, bal := range ballots {
				for _, took := range ballots {
					for _, c := range []api.Cmd{{}, put(1).Cmd} {
						for _, a := range []api.Attr{{}, bySeq(1, id(0, 0)), bySeq(1, id(0, 1))} {
							l = append(l, api.Rec{Id: i, State: state, Bal: bal, Took: took, Cmd: c, Attr: a})
						}
					}
				}
			}
		}
	}
	return l
}

// P9.2: each goes on from itself; who goes on from one that goes on, goes on.
func TestGoesOnOfThree(t *testing.T) {
	l := pool()
	next := make([][]int, len(l))
	goes := make([][]bool, len(l))
	for x, a := range l {
		goes[x] = make([]bool, len(l))
		for y, b := range l {
			goes[x][y] = rec.GoesOn(a, b)
			if goes[x][y] != goesOn(a, b) {
				t.Fatalf("from %s to %s it is %v", short(a), short(b), goes[x][y])
			}
			if goes[x][y] {
				next[x] = append(next[x], y)
			}
		}
		if !goes[x][x] {
			t.Fatalf("%s doesn't go on from itself", short(a))
		}
	}
	for x := range l {
		for _, y := range next[x] {
			for _, z := range next[y] {
				if !goes[x][z] {
					t.Fatalf("from %s to %s to %s", short(l[x]), short(l[y]), short(l[z]))
				}
			}
		}
	}
}

func number(v uint64) api.Item { return api.Item{Kind: 0, N: v} }

func text(s string) api.Item { return api.Item{Kind: 1, S: s} }

func list(l ...api.Item) api.Item { return api.Item{Kind: 2, L: slices.Clone(l)} }

func numbers(l ...int) api.Item {
	x := list()
	for _, v := range l {
		x.L = append(x.L, number(uint64(v)))
	}
	return x
}

func idsOf(l []api.Id) api.Item {
	x := list()
	for _, i := range l {
		x.L = append(x.L, number(uint64(i.R)), number(uint64(i.N)))
	}
	return x
}

func cmdOf(c api.Cmd) api.Item {
	return list(number(uint64(c.Kind)), number(uint64(c.Client)), number(uint64(c.Seq)), text(c.Key), text(c.Val), number(uint64(c.Rev)))
}

func attrOf(a api.Attr) api.Item {
	return list(number(uint64(a.Tag)), number(uint64(a.Seq)), idsOf(a.Deps))
}

func oldAttrOf(a api.Attr) api.Item { return list(number(uint64(a.Seq)), idsOf(a.Deps)) }

// headOf is what both forms begin with; itemOf and oldOf have the parts of any record, of one that isn't right too.
func headOf(r api.Rec) api.Item {
	return list(number(uint64(r.Id.R)), number(uint64(r.Id.N)), number(uint64(r.State)), numbers(r.Bal.Round, r.Bal.By), numbers(r.Took.Round, r.Took.By))
}

func itemOf(r api.Rec) api.Item {
	x := headOf(r)
	if r.State != 0 {
		x.L = append(x.L, cmdOf(r.Cmd), attrOf(r.Attr))
	}
	return x
}

func oldOf(r api.Rec) api.Item {
	x := headOf(r)
	if r.State != 0 {
		x.L = append(x.L, cmdOf(r.Cmd), oldAttrOf(r.Attr))
	}
	return x
}

func oldOr(t *testing.T, r api.Rec) api.Item {
	t.Helper()
	x, e := rec.Old(r)
	if e != api.OK {
		t.Errorf("Old of %s is %d", short(r), e)
	}
	return x
}

// wantTaken asks that r is put as want, and is taken as it was, from that item and by the item's form.
func wantTaken(t *testing.T, r api.Rec, x, want api.Item, take func(api.Item) (api.Rec, bool)) {
	t.Helper()
	if !codec.Same(x, want) {
		t.Errorf("%s is put as %v", short(r), x)
	}
	if got, ok := take(want); !ok || !alike(got, r) || !rec.Same(got, r) {
		t.Errorf("%s is taken as %s, %v", short(r), short(got), ok)
	}
	form, e := codec.Put(x)
	again, e2, _ := codec.Get(form)
	if got, ok := take(again); e != api.OK || e2 != api.OK || !ok || !alike(got, r) {
		t.Errorf("%s: %d, %d, by its form %s, %v", short(r), e, e2, short(got), ok)
	}
}

// wantBoth asks it of both forms.
func wantBoth(t *testing.T, r api.Rec) {
	t.Helper()
	wantTaken(t, r, rec.Item(r), itemOf(r), rec.Take)
	wantTaken(t, r, oldOr(t, r), oldOf(r), rec.TakeOld)
}

func wantNoOld(t *testing.T, r api.Rec, want api.Errno) {
	t.Helper()
	if x, e := rec.Old(r); e != want || !codec.Same(x, api.Item{}) {
		t.Errorf("Old of %s is %d with %v, want %d", short(r), e, x, want)
	}
}

// P9.1: both forms, written out.
func TestForms(t *testing.T) {
	r := put(api.SAcc)
	r.Attr = bySeq(4, id(0, 2), id(6, 300))
	head := "\x00\x01\x00\x02\x00\x02" + "\x02\x02\x00\x02\x00\x01" + "\x02\x02\x00\x01\x00\x04" + "\x02\x06\x00\x02\x00\x01\x00\x01\x01\x01k\x01\x01v\x00\x00"
	deps := "\x02\x04\x00\x00\x00\x02\x00\x06\x00\xf9\x01\x2c"
	form, e := codec.Put(rec.Item(r))
	if want := "\x02\x07" + head + "\x02\x03\x00\x01\x00\x04" + deps; e != api.OK || string(form) != want {
		t.Errorf("the form is % x, want % x", form, want)
	}
	form, e = codec.Put(oldOr(t, r))
	if want := "\x02\x07" + head + "\x02\x02\x00\x04" + deps; e != api.OK || string(form) != want {
		t.Errorf("the old form is % x, want % x", form, want)
	}
}

// P9.2: there and back of each State, each Kind, both tags, no ids and many; the old form, where there is one.
func TestItemAndTake(t *testing.T) {
	for _, state := range []int{api.SPre, api.SAcc, api.SCom} {
		for _, c := range rightCmds() {
			for _, a := range rightAttrs() {
				r := put(state)
				r.Cmd, r.Attr = c, a
				if a.Tag == api.TagSeq && c.Kind != api.KBarrier {
					wantBoth(t, r)
					continue
				}
				wantTaken(t, r, rec.Item(r), itemOf(r), rec.Take)
				wantNoOld(t, r, api.ErrTag)
			}
		}
	}
}

// P9.2: there and back of the least and the greatest Ids and ballots.
func TestItemAndTakeOfEdges(t *testing.T) {
	ballots := []api.Ballot{of(0, 0), of(0, 6), of(1, 0), of(300, 5), of(most, 0), of(most, 6)}
	for _, i := range []api.Id{id(0, 0), id(6, 0), id(0, most), id(6, most), id(3, 300)} {
		for x, bal := range ballots {
			wantBoth(t, api.Rec{Id: i, Bal: bal})
			for _, took := range ballots[:x+1] {
				r := put(api.SAcc)
				r.Id, r.Bal, r.Took, r.Attr.Deps = i, bal, took, []api.Id{id(1, 1)}
				wantBoth(t, r)
			}
		}
	}
	wantBoth(t, api.Rec{})
}

// faulty aren't right for one thing each, or for more.
func faulty() []api.Rec {
	var l []api.Rec
	for _, base := range bases() {
		for _, i := range []api.Id{id(-1, 0), id(7, 0), id(0, -1), id(0, most+1), id(math.MinInt, 0), id(0, math.MaxInt)} {
			l = append(l, changed(base, func(r *api.Rec) { r.Id = i }))
		}
		for _, state := range []int{-1, 4, math.MinInt, math.MaxInt, 1<<32 + base.State} {
			l = append(l, changed(base, func(r *api.Rec) { r.State = state }))
		}
		for _, b := range []api.Ballot{of(-1, 0), of(0, -1), of(0, 7), of(most+1, 0), of(math.MaxInt, 0), of(0, math.MinInt)} {
			l = append(l, changed(base, func(r *api.Rec) { r.Bal = b }), changed(base, func(r *api.Rec) { r.Took = b }))
		}
		l = append(l, changed(base, func(r *api.Rec) { r.Took = of(base.Bal.Round, base.Bal.By+1) }), changed(base, func(r *api.Rec) { r.Took = of(base.Bal.Round+1, 0) }))
	}
	for _, state := range []int{api.SPre, api.SAcc, api.SCom} {
		l = append(l, changed(promise(3, 1), func(r *api.Rec) { r.State = state }))
		l = append(l, changed(put(state), func(r *api.Rec) { r.Attr.Deps[1] = id(1, 2) }), changed(put(state), func(r *api.Rec) { r.Attr = byId(r.Id) }))
		for _, c := range wrongCmds() {
			l = append(l, changed(put(state), func(r *api.Rec) { r.Cmd = c }))
		}
		for _, a := range wrongAttrs() {
			l = append(l, changed(put(state), func(r *api.Rec) { r.Attr = a }))
		}
	}
	l = append(l, changed(promise(3, 1), func(r *api.Rec) { r.Took.By = 1 }), changed(promise(3, 1), func(r *api.Rec) { r.Took.Round = 1 }))
	return append(l, put(api.SNone), changed(promise(3, 1), func(r *api.Rec) { r.Attr.Tag = 1 }), changed(promise(3, 1), func(r *api.Rec) { r.Cmd.Client = 1 }))
}

// P9.1: Old of TagId and of a KBarrier, of what isn't right, and of what has both faults at once.
func TestOldOfWrongOnes(t *testing.T) {
	for _, state := range []int{api.SPre, api.SAcc, api.SCom} {
		barrier := api.Cmd{Kind: api.KBarrier}
		for _, c := range []api.Cmd{put(1).Cmd, {}, barrier} {
			for _, a := range []api.Attr{byId(), byId(few()...), bySeq(1), bySeq(9, few()...)} {
				r := put(state)
				r.Cmd, r.Attr = c, a
				if a.Tag == api.TagId || c == barrier {
					wantNoOld(t, r, api.ErrTag)
				} else {
					wantBoth(t, r)
				}
				r.Took = of(most, 6)
				wantNoOld(t, r, api.ErrForm)
			}
		}
	}
	for _, r := range faulty() {
		wantNoOld(t, r, api.ErrForm)
		r.Attr.Tag = api.TagId
		if !right(r) {
			wantNoOld(t, r, api.ErrForm)
		}
		r.Cmd = api.Cmd{Kind: api.KBarrier}
		if !right(r) {
			wantNoOld(t, r, api.ErrForm)
		}
	}
}

func wantNone(t *testing.T, name string, take func(api.Item) (api.Rec, bool), x api.Item) {
	t.Helper()
	if r, ok := take(x); ok || !zero(r) {
		t.Errorf("%s: taken as %s, %v", name, short(r), ok)
	}
}

func wantNeither(t *testing.T, name string, x api.Item) {
	t.Helper()
	wantNone(t, name, rec.Take, x)
	wantNone(t, name+", in the old form", rec.TakeOld, x)
}

// P9.1: items of what isn't right aren't taken, in either form; Item of these is none's either.
func TestTakeOfWrongOnes(t *testing.T) {
	for _, r := range faulty() {
		if right(r) {
			t.Fatalf("%s is right", short(r))
		}
		if r.State == api.SNone && right(api.Rec{Id: r.Id, Bal: r.Bal}) && r.Took == of(0, 0) {
			continue // its fault isn't seen in its parts
		}
		wantNeither(t, short(r), itemOf(r))
		if tagged := changed(r, func(r *api.Rec) { r.Attr.Tag = 1 }); !right(tagged) { // the old form doesn't tell the tag
			wantNeither(t, short(r), oldOf(r))
		}
	}
	for _, r := range faulty() {
		wantNeither(t, "Item of "+short(r), rec.Item(r))
		if _, e := codec.Put(rec.Item(r)); e != api.OK {
			t.Errorf("Item of %s is no right item: %d", short(r), e)
		}
	}
	if x := rec.Item(put(api.SNone)); !codec.Same(x, api.Item{}) {
		t.Errorf("Item of what isn't right is %v", x)
	}
}

// wholes are right records of each state, each kind and both tags, with few ids.
func wholes() []api.Rec {
	l := []api.Rec{{}, promise(3, 1), promise(most, 6), put(api.SPre), put(api.SAcc), put(api.SCom)}
	for at, c := range rightCmds() {
		r := put(1 + at%3)
		r.Cmd, r.Attr = c, bySeq(at+1, few()...)
		l = append(l, r)
		r.Attr = byId(few()[at%5:]...)
		l = append(l, r)
	}
	return l
}

// P9.1: numbers, texts, and lists with fewer items and with more.
func TestTakeOfOtherItems(t *testing.T) {
	wantNeither(t, "the zero item", api.Item{})
	for _, v := range []uint64{0, 1, 3, 5, most, math.MaxUint64} {
		wantNeither(t, "a number", number(v))
		wantNeither(t, "a list of a number", list(number(v)))
	}
	for _, s := range []string{"", "1", "\x02\x05\x00\x00", strings.Repeat("a", 5000)} {
		wantNeither(t, "a text", text(s))
		wantNeither(t, "a list of a text", list(text(s)))
	}
	wantNeither(t, "the empty list", list())
	wantNeither(t, "the empty list, not nil", api.Item{Kind: 2, L: []api.Item{}})
	wantNeither(t, "numbers alone", numbers(0, 0, 0, 0, 0))
	wantNeither(t, "numbers alone", numbers(0, 0, 0, 0, 0, 0, 0))
	wantNeither(t, "many items", api.Item{Kind: 2, L: make([]api.Item, 100000)})
	for _, r := range wholes() {
		for _, x := range []api.Item{itemOf(r), oldOf(r)} {
			for n := range len(x.L) {
				wantNeither(t, fmt.Sprintf("the first %d items", n), list(x.L[:n]...))
				wantNeither(t, fmt.Sprintf("behind the first %d items", n+1), list(x.L[n+1:]...))
			}
			for _, more := range []api.Item{number(0), number(1), text(""), list(), cmdOf(api.Cmd{}), attrOf(bySeq(1)), x} {
				wantNeither(t, "one item more, behind", list(append(slices.Clone(x.L), more)...))
				wantNeither(t, "one item more, ahead", list(append([]api.Item{more}, x.L...)...))
				wantNeither(t, "two items more, behind", list(append(slices.Clone(x.L), more, more)...))
			}
			wantNeither(t, "twice", list(slices.Concat(x.L, x.L)...))
			wantNeither(t, "in a list", list(x))
		}
	}
}

// P9.1: lists of SNone with a Cmd and an Attr behind, and of others without them.
func TestTakeOfOtherStates(t *testing.T) {
	for _, p := range []api.Rec{{}, promise(3, 1), promise(most, 6)} {
		head := headOf(p)
		for _, c := range append(rightCmds(), wrongCmds()...) {
			wantNeither(t, "SNone with a Cmd", list(append(slices.Clone(head.L), cmdOf(c))...))
			for _, a := range append(rightAttrs(), wrongAttrs()...) {
				wantNeither(t, "SNone with both", list(append(slices.Clone(head.L), cmdOf(c), attrOf(a))...))
				wantNeither(t, "SNone with both, old", list(append(slices.Clone(head.L), cmdOf(c), oldAttrOf(a))...))
			}
		}
		wantNeither(t, "SNone with two numbers", list(append(slices.Clone(head.L), number(0), number(0))...))
		wantNeither(t, "SNone with two empty lists", list(append(slices.Clone(head.L), list(), list())...))
		took := headOf(p)
		took.L[4] = numbers(0, 1)
		wantNeither(t, "SNone with a By", took)
		took.L[4] = numbers(1, 0)
		wantNeither(t, "SNone with a Round", took)
	}
	for state := 1; state <= 5; state++ {
		for _, r := range []api.Rec{put(state), {State: state, Cmd: api.Cmd{}, Attr: bySeq(1)}, {Id: id(6, most), State: state, Bal: of(1, 1)}} {
			wantNeither(t, "neither Cmd nor Attr", headOf(r))
			wantNeither(t, "no Attr", list(append(headOf(r).L, cmdOf(r.Cmd))...))
			wantNeither(t, "no Cmd", list(append(headOf(r).L, attrOf(r.Attr))...))
			wantNeither(t, "no Cmd, old", list(append(headOf(r).L, oldAttrOf(r.Attr))...))
			wantNeither(t, "turned", list(append(headOf(r).L, attrOf(r.Attr), cmdOf(r.Cmd))...))
			wantNeither(t, "turned, old", list(append(headOf(r).L, oldAttrOf(r.Attr), cmdOf(r.Cmd))...))
			wantNeither(t, "zero items", list(append(headOf(r).L, number(0), number(0))...))
		}
	}
}

// P9.1: Take takes no old form, and TakeOld no item; but of SNone, where both are the same.
func TestTakeOfEachOthersForms(t *testing.T) {
	for _, r := range wholes() {
		if r.State == api.SNone {
			wantTaken(t, r, rec.Item(r), oldOf(r), rec.TakeOld)
			wantTaken(t, r, oldOr(t, r), itemOf(r), rec.Take)
			continue
		}
		wantNone(t, "the old form of "+short(r), rec.Take, oldOf(r))
		wantNone(t, "the item of "+short(r), rec.TakeOld, itemOf(r))
	}
	for _, state := range []int{api.SPre, api.SAcc, api.SCom} {
		r := put(state)
		r.Cmd = api.Cmd{Kind: api.KBarrier}
		for _, a := range []api.Attr{bySeq(1), bySeq(7, few()...), byId(), byId(few()...)} {
			r.Attr = a
			wantNone(t, "a barrier as if it had an old form", rec.TakeOld, oldOf(r))
		}
		r.Cmd, r.Attr = put(1).Cmd, byId(few()...)
		wantNone(t, "TagId as if it had an old form", rec.TakeOld, oldOf(r))
	}
}

// copied is x on memory of its own.
func copied(x api.Item) api.Item {
	x.L = slices.Clone(x.L)
	for at := range x.L {
		x.L[at] = copied(x.L[at])
	}
	return x
}

// spots are the ways to all parts of x, at all depths, the one to x first.
func spots(x api.Item) [][]int {
	out := [][]int{nil}
	for at, part := range x.L {
		for _, way := range spots(part) {
			out = append(out, append([]int{at}, way...))
		}
	}
	return out
}

func partAt(x *api.Item, way []int) *api.Item {
	for _, at := range way {
		x = &x.L[at]
	}
	return x
}

// withPart is x with another part at that spot, on memory of its own.
func withPart(x api.Item, way []int, part api.Item) api.Item {
	y := copied(x)
	*partAt(&y, way) = part
	return y
}

// wrongParts are what may stand instead of a part, with what was there.
func wrongParts(was api.Item) map[string]api.Item {
	deep := number(0)
	for range 1000 {
		deep = list(deep)
	}
	l := map[string]api.Item{
		"a list of it":       list(was),
		"a list within many": deep,
		"kind 3":             {Kind: 3, N: was.N, S: was.S, L: was.L},
		"kind -1":            {Kind: -1, N: was.N, S: was.S, L: was.L},
	}
	for kind, name := range []string{"a number", "a text", "a list"} {
		if kind != was.Kind {
			l[name] = api.Item{Kind: kind}
			l[name+" with what it had"] = api.Item{Kind: kind, N: was.N, S: was.S, L: was.L}
			l[name+" of its own"] = []api.Item{number(1), text("1"), list(number(1))}[kind]
		}
	}
	if was.Kind != 0 {
		l["it, and a number"] = api.Item{Kind: was.Kind, N: 1, S: was.S, L: was.L}
	}
	if was.Kind != 1 {
		l["it, and a text"] = api.Item{Kind: was.Kind, N: was.N, S: "a", L: was.L}
	}
	if was.Kind != 2 {
		l["it, and a list"] = api.Item{Kind: was.Kind, N: was.N, S: was.S, L: []api.Item{{}}}
	}
	return l
}

// P9.1: at each spot, at all depths, what is of another kind, or has what its kind doesn't have.
func TestTakeOfWrongParts(t *testing.T) {
	for _, r := range wholes() {
		for form, x := range map[string]api.Item{"new": itemOf(r), "old": oldOf(r)} {
			for _, way := range spots(x) {
				for name, part := range wrongParts(*partAt(&x, way)) {
					wantNeither(t, fmt.Sprintf("%s, %s at %v", form, name, way), withPart(x, way, part))
				}
			}
		}
	}
}

// P9.1: lists within with fewer items and with more.
func TestTakeOfWrongLists(t *testing.T) {
	for form, f := range forms() {
		for _, r := range wholes() {
			x := f.want(r)
			for _, way := range spots(x) {
				was := *partAt(&x, way)
				if was.Kind != 2 {
					continue
				}
				name := fmt.Sprintf("%s, at %v", form, way)
				wantNone(t, name+": one number more", f.take, withPart(x, way, list(append(slices.Clone(was.L), number(1))...)))
				wantNone(t, name+": a text more", f.take, withPart(x, way, list(append(slices.Clone(was.L), text(""))...)))
				if len(was.L) > 0 {
					wantNone(t, name+": one fewer", f.take, withPart(x, way, list(was.L[1:]...)))
					wantNone(t, name+": without the last one", f.take, withPart(x, way, list(was.L[:len(was.L)-1]...)))
				}
			}
		}
	}
}

// P9.1: numbers too great at each spot, those that go round to small ones in 32 bits or in 63 among them.
func TestTakeOfGreatNumbers(t *testing.T) {
	for _, r := range wholes() {
		for form, x := range map[string]api.Item{"new": itemOf(r), "old": oldOf(r)} {
			for _, way := range spots(x) {
				was := *partAt(&x, way)
				if was.Kind != 0 {
					continue
				}
				for _, v := range []uint64{most + 1, 1 << 41, 1<<62 + was.N, 1<<63 - 1, 1<<63 + was.N, math.MaxUint64 - 1, math.MaxUint64, -was.N | 1<<63, most + 1 + was.N} {
					wantNeither(t, fmt.Sprintf("%s, %d at %v", form, v, way), withPart(x, way, number(v)))
				}
			}
			for _, way := range [][]int{{0}, {2}, {3, 1}, {4, 1}} {
				for _, v := range []uint64{7, 8, 256 + partAt(&x, way).N, 1<<16 + partAt(&x, way).N, 1<<32 + partAt(&x, way).N, most} {
					wantNeither(t, fmt.Sprintf("%s, %d at %v", form, v, way), withPart(x, way, number(v)))
				}
			}
			wantNeither(t, form+", state 4", withPart(x, []int{2}, number(4)))
		}
	}
	x := itemOf(put(api.SAcc))
	for _, way := range [][]int{{5, 0}, {6, 0}, {6, 2, 0}, {6, 2, 4}} {
		for _, v := range []uint64{7, 256 + partAt(&x, way).N, 1<<32 + partAt(&x, way).N, most} {
			wantNeither(t, fmt.Sprintf("%d at %v", v, way), withPart(x, way, number(v)))
		}
	}
}

// P9.1, P9.2: small numbers at the spots of the head, against the tests' own reading.
func TestTakeOfSmallNumbers(t *testing.T) {
	rnd := rand.New(rand.NewSource(9))
	taken := 0
	for range 20000 {
		r := put(rnd.Intn(5))
		r.Id = id(rnd.Intn(9), rnd.Intn(4))
		r.Bal, r.Took = of(rnd.Intn(3), rnd.Intn(9)), of(rnd.Intn(3), rnd.Intn(9))
		r.Attr.Tag, r.Attr.Seq = 1+rnd.Intn(2), rnd.Intn(2)
		if r.State == 0 {
			r.Cmd, r.Attr = api.Cmd{}, api.Attr{}
		}
		got, ok := rec.Take(itemOf(r))
		if ok != right(r) || ok && !alike(got, r) || !ok && !zero(got) {
			t.Fatalf("the item of %s is taken as %s, %v", short(r), short(got), ok)
		}
		if ok {
			taken++
		}
		if r.State != 0 {
			r.Attr.Tag = 1
		}
		got, ok = rec.TakeOld(oldOf(r))
		if ok != hasOld(r) || ok && !alike(got, r) || !ok && !zero(got) {
			t.Fatalf("the old form of %s is taken as %s, %v", short(r), short(got), ok)
		}
	}
	if taken < 500 {
		t.Errorf("only %d were taken", taken)
	}
}

// room is r with more memory behind its Deps, which holds ids that nobody else has.
func room(r api.Rec) api.Rec {
	all := append(slices.Clone(r.Attr.Deps), id(-7, -7), r.Id, id(-7, -5))
	r.Attr.Deps = all[:len(r.Attr.Deps)]
	return r
}

func untouched(r, was api.Rec) bool {
	behind := r.Attr.Deps[len(r.Attr.Deps) : len(r.Attr.Deps)+3]
	return alike(r, was) && slices.Equal(behind, []api.Id{id(-7, -7), was.Id, id(-7, -5)})
}

// over writes other things over all of l, and behind it as far as its memory goes.
func over(l []api.Id) {
	l = l[:cap(l)]
	for at := range l {
		l[at] = id(-9, -9)
	}
}

func overItem(x api.Item) {
	l := x.L[:cap(x.L)]
	for at := range l {
		overItem(l[at])
		l[at] = text("over")
	}
}

// several are right or not, of few ids and of many.
func several() []api.Rec {
	l := append(bases(), starts()...)
	for _, a := range append(rightAttrs(), wrongAttrs()...) {
		r := put(api.SCom)
		r.Attr = a
		l = append(l, r)
	}
	return append(l, api.Rec{}, changed(put(api.SAcc), func(r *api.Rec) { r.Cmd = api.Cmd{Kind: api.KBarrier} }))
}

// R4, R6: asking changes nothing, with what lies behind it, and is answered the same each time.
func TestAskingChangesNothing(t *testing.T) {
	for _, one := range several() {
		for _, other := range several() {
			a, b := room(one), room(other)
			e, goes, same, x := rec.Check(a), rec.GoesOn(a, b), rec.Same(a, b), rec.Item(a)
			y, e2 := rec.Old(a)
			if !untouched(a, one) || !untouched(b, other) {
				t.Fatalf("%s or %s was changed", short(one), short(other))
			}
			if (e == api.OK) != right(one) || goes != goesOn(one, other) || same != alike(one, other) {
				t.Fatalf("%s and %s: what lies behind was read", short(one), short(other))
			}
			z, e3 := rec.Old(a)
			if rec.Check(a) != e || rec.GoesOn(a, b) != goes || rec.Same(a, b) != same || !codec.Same(rec.Item(a), x) || e3 != e2 || !codec.Same(y, z) {
				t.Fatalf("%s and %s have two answers", short(one), short(other))
			}
		}
	}
}

// forms are both forms: how a record is put and taken, what it should be put as, and whether it can be.
func forms() map[string]struct {
	put, want func(api.Rec) api.Item
	take      func(api.Item) (api.Rec, bool)
	has       func(api.Rec) bool
} {
	old := func(r api.Rec) api.Item { x, _ := rec.Old(r); return x }
	return map[string]struct {
		put, want func(api.Rec) api.Item
		take      func(api.Item) (api.Rec, bool)
		has       func(api.Rec) bool
	}{"new": {rec.Item, itemOf, rec.Take, right}, "old": {old, oldOf, rec.TakeOld, hasOld}}
}

// R4: items are new memory, in both forms: neither what was handed in nor another answer changes with them, nor they with it.
func TestItemMemory(t *testing.T) {
	for name, form := range forms() {
		for _, one := range several() {
			want := api.Item{}
			if form.has(one) {
				want = form.want(one)
			}
			r := room(one)
			x, second := form.put(r), form.put(r)
			overItem(second)
			if !untouched(r, one) || !codec.Same(x, want) || !codec.Same(form.put(r), want) {
				t.Fatalf("%s, %s: writing over an item changed something", name, short(one))
			}
			over(r.Attr.Deps)
			if !codec.Same(x, want) {
				t.Fatalf("%s, %s: its item changed with it", name, short(one))
			}
			for at := range x.L {
				rest := copied(x)
				overItem(x.L[at])
				x.L[at] = rest.L[at]
				if !codec.Same(x, rest) {
					t.Fatalf("%s, %s: two lists of its item share memory", name, short(one))
				}
			}
		}
	}
}

// roomItem is x with more memory behind each of its lists.
func roomItem(x api.Item) api.Item {
	n := len(x.L)
	all := append(slices.Clone(x.L), text("behind"), number(3))
	for at := range n {
		if all[at].Kind == api.KList {
			all[at] = roomItem(all[at])
		}
	}
	x.L = all[:n]
	return x
}

// behind tells whether what lies behind the lists of x is as roomItem laid it.
func behind(x api.Item) bool {
	n := len(x.L)
	more := x.L[n : n+2]
	for _, part := range x.L {
		if part.Kind == api.KList && !behind(part) {
			return false
		}
	}
	return codec.Same(more[0], text("behind")) && codec.Same(more[1], number(3))
}

// R4: Take and TakeOld leave the item as it was, with what lies behind it; what is taken stays when the item is written over, and the other way round.
func TestTakeMemory(t *testing.T) {
	for name, form := range forms() {
		for _, one := range several() {
			if one.State == api.SNone && !right(one) || name == "old" && one.State != api.SNone && one.Attr.Tag != api.TagSeq {
				continue // what makes it wrong isn't told by its form
			}
			x := roomItem(form.want(one))
			got, ok := form.take(x)
			second, _ := form.take(x)
			if ok != form.has(one) || !codec.Same(x, form.want(one)) || !behind(x) {
				t.Fatalf("%s, %s: taking it changed the item, or was %v", name, short(one), ok)
			}
			over(second.Attr.Deps)
			if !codec.Same(x, form.want(one)) || !behind(x) || ok && !alike(got, one) {
				t.Fatalf("%s, %s: writing over what was taken changed something", name, short(one))
			}
			overItem(x)
			if ok && !alike(got, one) || !ok && !zero(got) {
				t.Fatalf("%s, %s: what was taken changed with the item", name, short(one))
			}
		}
	}
}

// R4: parts that lie behind the end of a list aren't taken.
func TestTakeReadsNothingBehind(t *testing.T) {
	for name, form := range forms() {
		all := form.want(put(api.SAcc))
		for n := range len(all.L) {
			wantNone(t, fmt.Sprintf("%s, %d parts, the others behind", name, n), form.take, api.Item{Kind: 2, L: all.L[:n]})
		}
		x := form.want(promise(3, 1))
		x.L = append(x.L, all.L[5:]...)[:5]
		if got, ok := form.take(x); !ok || !alike(got, promise(3, 1)) {
			t.Errorf("%s: a promise with parts behind is taken as %s, %v", name, short(got), ok)
		}
	}
}

// R1: what is above the limits is refused ahead of making as much of it.
func TestNothingAboveTheLimitIsMade(t *testing.T) {
	r := put(api.SCom)
	r.Id, r.Attr = id(6, most), bySeq(1, row(1<<18)...)
	x, y := itemOf(r), oldOf(r)
	long := api.Item{Kind: 2, L: make([]api.Item, 1<<18)}
	var before, behind runtime.MemStats
	runtime.ReadMemStats(&before)
	e := rec.Check(r)
	item := rec.Item(r)
	_, e2 := rec.Old(r)
	_, ok := rec.Take(x)
	_, ok2 := rec.TakeOld(y)
	_, ok3 := rec.Take(long)
	_, ok4 := rec.TakeOld(long)
	runtime.ReadMemStats(&behind)
	if e != api.ErrForm || e2 != api.ErrForm || ok || ok2 || ok3 || ok4 || len(item.L) != 0 {
		t.Errorf("above the limit: %d, %d, %v, %v, %v, %v", e, e2, ok, ok2, ok3, ok4)
	}
	if made := behind.TotalAlloc - before.TotalAlloc; made > 4096*16 {
		t.Errorf("%d bytes of memory for what is refused", made)
	}
}

// P9.1, P1: of any bytes, what is taken is a right record that has that form.
func FuzzTake(f *testing.F) {
	for _, r := range append(wholes(), faulty()...) {
		for _, x := range []api.Item{itemOf(r), oldOf(r)} {
			if b, e := codec.Put(x); e == api.OK && len(b) < 2000 {
				f.Add(b)
			}
		}
	}
	f.Fuzz(func(t *testing.T, b []byte) {
		x, _, _ := codec.Get(b)
		r, ok := rec.Take(x)
		if ok && (!right(r) || !codec.Same(itemOf(r), x)) || !ok && !zero(r) {
			t.Errorf("% x: taken as %s, %v", b, short(r), ok)
		}
		r, ok = rec.TakeOld(x)
		if ok && (!hasOld(r) || !codec.Same(oldOf(r), x)) || !ok && !zero(r) {
			t.Errorf("% x: taken by its old form as %s, %v", b, short(r), ok)
		}
	})
}

// P9.1, P9.2, P1: of any two, each call against the tests' own reading.
func FuzzTwo(f *testing.F) {
	f.Add(1, 2, 2, 2, 1, 1, 4, 2, "k", 1, 4, 0, 2)
	f.Add(1, 2, 3, 2, 1, 2, 1, 6, "", 2, 0, 1, 2)
	f.Add(0, 0, 0, 3, 1, 0, 0, 0, "", 0, 0, 0, 0)
	f.Fuzz(func(t *testing.T, r, n, state, round, by, round2, by2, kind int, key string, tag, seq, r2, n2 int) {
		a := api.Rec{Id: id(r, n), State: state, Bal: of(round, by), Took: of(round2, by2), Cmd: api.Cmd{Kind: kind, Key: key}, Attr: api.Attr{Deps: []api.Id{id(r2, n2)}, Seq: seq, Tag: tag}}
		if key != "" {
			a.Cmd.Client, a.Cmd.Seq = 1, 1
		}
		b := changed(a, func(b *api.Rec) { b.Bal, b.Took = b.Took, b.Bal })
		for _, x := range [][2]api.Rec{{a, a}, {a, b}, {b, a}} {
			if rec.GoesOn(x[0], x[1]) != goesOn(x[0], x[1]) || rec.Same(x[0], x[1]) != alike(x[0], x[1]) {
				t.Errorf("%s and %s", short(x[0]), short(x[1]))
			}
		}
		if (rec.Check(a) == api.OK) != right(a) {
			t.Errorf("Check of %s is %d", short(a), rec.Check(a))
		}
		for name, form := range forms() {
			if got, ok := form.take(form.put(a)); ok != form.has(a) || ok && !alike(got, a) || !ok && !zero(got) {
				t.Errorf("%s, %s: taken as %s, %v", name, short(a), short(got), ok)
			}
		}
	})
}

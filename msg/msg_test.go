package msg_test

import (
	"bytes"
	"fmt"
	"math"
	"math/rand"
	"slices"
	"strings"
	"testing"

	"stonecrop/api"
	"stonecrop/attr"
	"stonecrop/cmd"
	"stonecrop/codec"
	"stonecrop/msg"
)

const most = 1 << 40

// kinds are all that there are.
var kinds = []int{1, 2, 3, 4, 5, 6, 7, 8, 9}

// edges are numbers at which something may turn, or go round.
var edges = []int{math.MinInt, math.MinInt + 1, -most, -1 << 32, -2, -1, 0, 1, 2, 3, 4, 5, 6, 7, 8, 9, 10, 11, 255, 256, 257, 1 << 32, 1<<32 + 1, 1<<32 + 2, most - 1, most, most + 1, math.MaxInt - 1, math.MaxInt}

func id(r, n int) api.Id { return api.Id{R: r, N: n} }

func of(round, by int) api.Ballot { return api.Ballot{Round: round, By: by} }

func bySeq(seq int, deps ...api.Id) api.Attr { return api.Attr{Deps: deps, Seq: seq, Tag: 1} }

func byId(deps ...api.Id) api.Attr { return api.Attr{Deps: deps, Tag: 2} }

// few ids, of the same N, of the same R, and of neither; they rise.
func few() []api.Id { return []api.Id{id(2, 0), id(0, 3), id(1, 3), id(0, 4), id(6, most)} }

// row is a right set of that many ids; it hasn't 1.2.
func row(n int) []api.Id {
	var l []api.Id
	for k := range n {
		l = append(l, id(k%7, 3*(k/7)))
	}
	return l
}

func putOf(key, val string) api.Cmd {
	return api.Cmd{Kind: api.KPut, Client: 1, Seq: 1, Key: key, Val: val}
}

// named is the document's table; what a message of that Kind may have, in words.
func named(kind int) []string {
	words := map[int]string{
		1: "Id Bal Cmd Attr", 3: "Id Bal Cmd Attr",
		2: "Id Bal Attr",
		4: "Id Bal", 6: "Id Bal", 8: "Id Bal",
		5: "Id Cmd Attr",
		7: "Id Bal State Took Cmd Attr",
		9: "Version",
	}
	return strings.Fields(words[kind])
}

// hasOf is what m has, by its Kind, and by its State where it tells that.
func hasOf(m api.Msg) []string {
	words := named(m.Kind)
	if m.Kind == 7 && m.State == 0 {
		return words[:4]
	}
	return words
}

// parts are all that a message may have: how each is taken over into another message.
func parts() map[string]func(to *api.Msg, from api.Msg) {
	return map[string]func(to *api.Msg, from api.Msg){
		"Id":      func(to *api.Msg, from api.Msg) { to.Id = from.Id },
		"Bal":     func(to *api.Msg, from api.Msg) { to.Bal = from.Bal },
		"State":   func(to *api.Msg, from api.Msg) { to.State = from.State },
		"Took":    func(to *api.Msg, from api.Msg) { to.Took = from.Took },
		"Cmd":     func(to *api.Msg, from api.Msg) { to.Cmd = from.Cmd },
		"Attr":    func(to *api.Msg, from api.Msg) { to.Attr = from.Attr },
		"Version": func(to *api.Msg, from api.Msg) { to.Version = from.Version },
	}
}

// every has each part, of which none is zero; it isn't right.
func every(kind, state int) api.Msg {
	return api.Msg{Kind: kind, Id: id(1, 2), Bal: of(2, 1), State: state, Took: of(1, 4), Cmd: putOf("k", "v"), Attr: bySeq(4, few()...), Version: 2}
}

// only is m with these parts alone.
func only(m api.Msg, words []string) api.Msg {
	out := api.Msg{Kind: m.Kind}
	for _, word := range words {
		parts()[word](&out, m)
	}
	return out
}

// full is a right message of that Kind with all that it may have, none of it zero.
func full(kind int) api.Msg { return only(every(kind, api.SAcc), named(kind)) }

// prepOk is a right MPrepOk of that State, if there is one.
func prepOk(state int) api.Msg {
	m := full(api.MPrepOk)
	m.State = state
	if state == api.SNone {
		m = only(m, []string{"Id", "Bal"})
	}
	return m
}

// bases are right messages of each Kind, and of each State.
func bases() []api.Msg {
	var l []api.Msg
	for _, kind := range kinds {
		l = append(l, full(kind))
	}
	return append(l, prepOk(api.SNone), prepOk(api.SPre), prepOk(api.SCom))
}

// basesWith are those of them that have that part.
func basesWith(word string) []api.Msg {
	return slices.DeleteFunc(bases(), func(m api.Msg) bool { return !slices.Contains(hasOf(m), word) })
}

// right is the document's words once more, by other means.
func right(m api.Msg) bool {
	has := hasOf(m)
	if len(has) == 0 || !alike(m, only(m, has)) {
		return false
	}
	for _, word := range has {
		if !rightPart(m, word) {
			return false
		}
	}
	if m.Kind != 7 {
		return true
	}
	if m.State == 0 {
		return m.Took.Round == 0 && m.Took.By == 0
	}
	return !ahead(m.Bal, m.Took)
}

func rightPart(m api.Msg, word string) bool {
	switch word {
	case "Id":
		return rightId(m.Id)
	case "Bal":
		return rightBallot(m.Bal)
	case "Took":
		return rightBallot(m.Took)
	case "State":
		return slices.Contains([]int{0, 1, 2, 3}, m.State)
	case "Cmd":
		return cmd.Check(m.Cmd) == api.OK
	case "Attr":
		return attr.Check(m.Attr) == api.OK && !slices.Contains(m.Attr.Deps, m.Id)
	}
	return m.Version == 1 || m.Version == 2
}

func ahead(a, b api.Ballot) bool {
	return slices.Compare([]int{a.Round, a.By}, []int{b.Round, b.By}) < 0
}

func rightId(i api.Id) bool {
	return slices.Contains([]int{0, 1, 2, 3, 4, 5, 6}, i.R) && !(i.N < 0 || i.N > most)
}

func rightBallot(b api.Ballot) bool {
	return slices.Contains([]int{0, 1, 2, 3, 4, 5, 6}, b.By) && !(b.Round < 0 || b.Round > most)
}

// numbersOf are all parts of a message that are numbers; the lists' lengths are among them.
func numbersOf(m api.Msg) []int {
	l := []int{
		m.Kind, m.Id.R, m.Id.N, m.Bal.Round, m.Bal.By, m.State, m.Took.Round, m.Took.By,
		m.Cmd.Kind, m.Cmd.Client, m.Cmd.Seq, m.Cmd.Rev, m.Attr.Tag, m.Attr.Seq, m.Version, len(m.Attr.Deps),
	}
	for _, i := range m.Attr.Deps {
		l = append(l, i.R, i.N)
	}
	return l
}

func alike(a, b api.Msg) bool {
	return slices.Equal(numbersOf(a), numbersOf(b)) && a.Cmd.Key == b.Cmd.Key && a.Cmd.Val == b.Cmd.Val
}

func zero(m api.Msg) bool { return alike(m, api.Msg{}) }

func short(m api.Msg) string {
	more := ""
	if n := len(m.Attr.Deps); n > 6 {
		more = fmt.Sprintf(" and so on, %d ids", n)
		m.Attr.Deps = m.Attr.Deps[:6]
	}
	if n := len(m.Cmd.Val); n > 20 {
		more += fmt.Sprintf(", a value of %d bytes", n)
		m.Cmd.Val = m.Cmd.Val[:20]
	}
	return fmt.Sprintf("%+v%s", m, more)
}

// changed is m with one thing done to it, on memory of its own.
func changed(m api.Msg, turn func(m *api.Msg)) api.Msg {
	m.Attr.Deps = slices.Clone(m.Attr.Deps)
	turn(&m)
	return m
}

// wantCheck asks Check, and of Put the same.
func wantCheck(t *testing.T, name string, m api.Msg, want bool) {
	t.Helper()
	e := api.ErrForm
	if want {
		e = api.OK
	}
	if got := msg.Check(m); got != e {
		t.Errorf("%s: Check of %s is %d, want %d", name, short(m), got, e)
	}
	if b, got := msg.Put(m); got != e || (len(b) == 0) == want {
		t.Errorf("%s: Put of %s is % x, %d, want %d", name, short(m), b, got, e)
	}
	if right(m) != want {
		t.Errorf("%s: the tests' own reading of %s is %v", name, short(m), !want)
	}
}

// P10.1: the numbers of the Kinds and of the States.
func TestNumbers(t *testing.T) {
	got := []int{api.MPre, api.MPreOk, api.MAcc, api.MAccOk, api.MCom, api.MPrep, api.MPrepOk, api.MNo, api.MHello, api.SNone, api.SPre, api.SAcc, api.SCom, api.V1, api.V2}
	if !slices.Equal(got, []int{1, 2, 3, 4, 5, 6, 7, 8, 9, 0, 1, 2, 3, 1, 2}) {
		t.Errorf("the numbers are %v", got)
	}
}

// P10.1: each Kind with all that it has.
func TestCheckOfWholeOnes(t *testing.T) {
	for _, m := range bases() {
		wantCheck(t, "all that it has", m, true)
	}
	wantCheck(t, "the zero message", api.Msg{}, false)
}

// singles give one part of a message, of those that are numbers, another number.
func singles() map[string]func(m *api.Msg, v int) {
	return map[string]func(m *api.Msg, v int){
		"Id's R":       func(m *api.Msg, v int) { m.Id.R = v },
		"Id's N":       func(m *api.Msg, v int) { m.Id.N = v },
		"Bal's Round":  func(m *api.Msg, v int) { m.Bal.Round = v },
		"Bal's By":     func(m *api.Msg, v int) { m.Bal.By = v },
		"State":        func(m *api.Msg, v int) { m.State = v },
		"Took's Round": func(m *api.Msg, v int) { m.Took.Round = v },
		"Took's By":    func(m *api.Msg, v int) { m.Took.By = v },
		"Cmd's Kind":   func(m *api.Msg, v int) { m.Cmd.Kind = v },
		"Cmd's Client": func(m *api.Msg, v int) { m.Cmd.Client = v },
		"Cmd's Seq":    func(m *api.Msg, v int) { m.Cmd.Seq = v },
		"Cmd's Rev":    func(m *api.Msg, v int) { m.Cmd.Rev = v },
		"Attr's Seq":   func(m *api.Msg, v int) { m.Attr.Seq = v },
		"Attr's Tag":   func(m *api.Msg, v int) { m.Attr.Tag = v },
		"Version's":    func(m *api.Msg, v int) { m.Version = v },
	}
}

// partOf is the part that a name speaks of.
func partOf(name string) string {
	word, _, _ := strings.Cut(name, " ")
	return strings.TrimSuffix(word, "'s")
}

// P10.1: each Kind with each part alone that it hasn't, at all numbers; and with the texts and lists that it hasn't.
func TestCheckOfOnePartMore(t *testing.T) {
	for _, m := range bases() {
		for name, give := range singles() {
			word := partOf(name)
			if slices.Contains(hasOf(m), word) && (word != "Took" || m.State != api.SNone) {
				continue
			}
			for _, v := range edges {
				wantCheck(t, name, changed(m, func(m *api.Msg) { give(m, v) }), v == 0)
			}
		}
		if !slices.Contains(hasOf(m), "Cmd") {
			for _, s := range []string{"\x00", "k", "\xff", strings.Repeat("k", 100)} {
				wantCheck(t, "a Key", changed(m, func(m *api.Msg) { m.Cmd.Key = s }), false)
				wantCheck(t, "a Val", changed(m, func(m *api.Msg) { m.Cmd.Val = s }), false)
			}
			for _, c := range append(rightCmds(), wrongCmds()...) {
				wantCheck(t, "a Cmd", changed(m, func(m *api.Msg) { m.Cmd = c }), c == api.Cmd{})
			}
		}
		if !slices.Contains(hasOf(m), "Attr") {
			for _, l := range [][]api.Id{{{}}, few(), row(4096), row(5000), {id(-1, -1)}} {
				wantCheck(t, "Deps", changed(m, func(m *api.Msg) { m.Attr.Deps = l }), false)
			}
			wantCheck(t, "Deps without elements", changed(m, func(m *api.Msg) { m.Attr.Deps = []api.Id{} }), true)
			for _, a := range rightAttrs() {
				wantCheck(t, "an Attr", changed(m, func(m *api.Msg) { m.Attr = a }), false)
			}
		}
	}
}

// P10.1: each Kind with one part fewer: no Attr and no Version is right that is zero; the rest is.
func TestCheckOfOnePartFewer(t *testing.T) {
	for _, m := range bases() {
		for word, take := range parts() {
			if !slices.Contains(hasOf(m), word) {
				continue
			}
			fewer := changed(m, func(m *api.Msg) { take(m, api.Msg{}) })
			want := word != "Attr" && word != "Version"
			switch {
			case m.Kind == api.MPrepOk && word == "Bal":
				want = m.Took == (api.Ballot{})
			case m.Kind == api.MPrepOk && word == "State":
				want = m.State == api.SNone
			}
			wantCheck(t, "no "+word, fewer, want)
		}
	}
}

// P10.1: all Kinds, and what is none, with each choice of parts.
func TestCheckOfEachChoice(t *testing.T) {
	words := []string{"Id", "Bal", "State", "Took", "Cmd", "Attr", "Version"}
	count := map[bool]int{}
	for kind := -1; kind <= 11; kind++ {
		for choice := range 1 << len(words) {
			var chosen []string
			for at, word := range words {
				if choice>>at&1 == 1 {
					chosen = append(chosen, word)
				}
			}
			m := only(every(kind, api.SPre), chosen)
			wantCheck(t, fmt.Sprint(chosen), m, right(m))
			count[right(m)]++
		}
	}
	if count[true] < 20 || count[false] < 1000 {
		t.Errorf("of the choices %v are right", count)
	}
}

// P10.1: which Kinds there are, with whatever a message has.
func TestCheckOfKinds(t *testing.T) {
	for _, m := range append(bases(), api.Msg{}, every(0, api.SAcc), every(0, api.SNone), api.Msg{Version: 1}, api.Msg{Attr: bySeq(1)}) {
		for _, kind := range edges {
			if slices.Contains(kinds, kind) {
				continue
			}
			m.Kind = kind
			wantCheck(t, "no such Kind", m, false)
		}
		for _, kind := range kinds {
			m.Kind = kind
			wantCheck(t, "another Kind", m, right(m))
		}
	}
}

// P10.1: which Ids are right, of each Kind that has one.
func TestCheckOfIds(t *testing.T) {
	for _, m := range basesWith("Id") {
		m.Attr.Deps = nil
		for _, r := range edges {
			for _, n := range edges {
				m.Id = id(r, n)
				wantCheck(t, "ids", m, 0 <= r && r <= 6 && 0 <= n && n <= most)
			}
		}
	}
}

// P10.1: which ballots are right, as Bal of each Kind that has one, and as Took.
func TestCheckOfBallots(t *testing.T) {
	for _, m := range basesWith("Bal") {
		m.Took = api.Ballot{}
		for _, round := range edges {
			for _, by := range edges {
				b := of(round, by)
				ok := 0 <= round && round <= most && 0 <= by && by <= 6
				m.Bal = b
				wantCheck(t, "Bal", m, ok)
				if m.Kind != api.MPrepOk || m.State == api.SNone {
					continue
				}
				wantCheck(t, "both", changed(m, func(m *api.Msg) { m.Took = b }), ok)
				wantCheck(t, "Took", changed(m, func(m *api.Msg) { m.Bal, m.Took = of(most, 6), b }), ok)
			}
		}
	}
}

// rightCmds are of each Kind, at their edges.
func rightCmds() []api.Cmd {
	return []api.Cmd{
		{}, {Kind: api.KBarrier}, putOf("a", ""),
		{Kind: api.KGet, Client: 1, Seq: 1, Key: "a"},
		{Kind: api.KPut, Client: 1 << 20, Seq: most, Key: strings.Repeat("\u03b1", 32), Val: strings.Repeat("\xff", 1024)},
		{Kind: api.KDelete, Client: 7, Seq: 300, Key: "\u65e5"},
		{Kind: api.KCas, Client: 2, Seq: 1 << 32, Key: "k", Val: "v"}, {Kind: api.KCas, Client: 2, Seq: 3, Key: "k", Rev: most},
		{Kind: api.KFind, Client: 3, Seq: 9}, {Kind: api.KFind, Client: 3, Seq: 9, Key: "ab"},
	}
}

// wrongCmds aren't right for one thing each.
func wrongCmds() []api.Cmd {
	return []api.Cmd{
		{Kind: -1}, {Kind: 7}, {Kind: math.MaxInt}, {Client: 1}, {Seq: 1}, {Key: "a"}, {Val: "v"}, {Rev: 1}, {Kind: api.KBarrier, Client: 1}, {Kind: api.KBarrier, Key: "a"},
		{Kind: api.KGet, Seq: 1, Key: "a"}, {Kind: api.KGet, Client: 1, Key: "a"}, {Kind: api.KGet, Client: 1, Seq: 1}, {Kind: api.KGet, Client: 1, Seq: 1, Key: "a\x1f"},
		{Kind: api.KGet, Client: 1, Seq: 1, Key: "a", Val: "v"}, {Kind: api.KPut, Client: 1, Seq: 1, Key: "a", Rev: 1},
		putOf("a", strings.Repeat("v", 1025)), putOf(strings.Repeat("a", 33), ""),
		{Kind: api.KPut, Client: 1<<20 + 1, Seq: 1, Key: "a"}, {Kind: api.KPut, Client: -1, Seq: 1, Key: "a"}, {Kind: api.KPut, Client: 1, Seq: most + 1, Key: "a"},
		{Kind: api.KCas, Client: 1, Seq: 1, Key: "a", Rev: -1}, {Kind: api.KCas, Client: 1, Seq: 1, Key: "a", Rev: most + 1}, {Kind: api.KFind, Client: 1, Seq: 1, Key: "\xff"},
	}
}

// rightAttrs are of both tags, of no ids and of many; none has 1.2.
func rightAttrs() []api.Attr {
	return []api.Attr{
		bySeq(1), bySeq(most), {Deps: []api.Id{}, Seq: 300, Tag: 1}, bySeq(2, id(1, 3)), bySeq(5, few()...), bySeq(most, row(4096)...),
		byId(), {Deps: []api.Id{}, Tag: 2}, byId(id(0, 0)), byId(id(6, most)), byId(few()...), byId(row(4096)...),
	}
}

// wrongAttrs aren't right for one thing each.
func wrongAttrs() []api.Attr {
	fall := []api.Id{id(0, 4), id(1, 3)}
	return []api.Attr{
		{}, {Seq: 1}, {Tag: 3}, {Seq: 1, Tag: 3}, {Tag: -1}, {Seq: 1, Tag: 1 << 32}, {Deps: few()},
		bySeq(0), bySeq(-1), bySeq(most + 1), bySeq(0, few()...), bySeq(math.MaxInt), {Seq: 1, Tag: 2}, {Seq: -1, Tag: 2},
		bySeq(1, fall...), byId(fall...), bySeq(1, id(1, 3), id(1, 3)), byId(id(7, 0)), byId(id(-1, 0)), bySeq(1, id(0, most+1)), bySeq(1, id(0, -1)),
		bySeq(1, row(4097)...), byId(row(4097)...),
	}
}

// P10.1: of each Kind that has them, Cmds and Attrs that are right and that aren't.
func TestCheckOfCmdsAndAttrs(t *testing.T) {
	for _, m := range basesWith("Attr") {
		cmds := []api.Cmd{{}}
		if slices.Contains(hasOf(m), "Cmd") {
			cmds = append(rightCmds(), wrongCmds()...)
		}
		for _, c := range cmds {
			m.Cmd = c
			for _, a := range rightAttrs() {
				m.Attr = a
				wantCheck(t, "a right Attr", m, cmd.Check(c) == api.OK)
			}
			for _, a := range wrongAttrs() {
				m.Attr = a
				wantCheck(t, "the Attr isn't right", m, false)
			}
		}
	}
}

// P10.1: an MPreOk with an Attr has no Cmd, whichever.
func TestCheckOfPreOk(t *testing.T) {
	m := api.Msg{Kind: api.MPreOk, Id: id(1, 2), Attr: bySeq(1)}
	wantCheck(t, "an Attr and no Cmd", m, true)
	for _, c := range append(rightCmds(), wrongCmds()...) {
		m.Cmd = c
		wantCheck(t, "an Attr and a Cmd", m, c == api.Cmd{})
	}
	wantCheck(t, "neither", api.Msg{Kind: api.MPreOk, Id: id(1, 2)}, false)
	wantCheck(t, "a Cmd and no Attr", api.Msg{Kind: api.MPreOk, Id: id(1, 2), Cmd: putOf("k", "v")}, false)
}

// P10.1: the Id among the Deps at each place, and not among them, though its R and its N are.
func TestCheckOfTheIdAmongTheDeps(t *testing.T) {
	for _, m := range basesWith("Attr") {
		for _, l := range [][]api.Id{{id(3, 5)}, {id(0, 0)}, {id(6, most)}, few(), row(7), row(100), row(4096)} {
			for _, a := range []api.Attr{bySeq(4, l...), byId(l...)} {
				m.Attr = a
				for _, i := range []int{0, len(l) / 3, len(l) / 2, len(l) - 1} {
					m.Id = l[i]
					wantCheck(t, "among them", m, false)
				}
				for _, i := range []api.Id{id(1, 4), id(0, 2), id(4, 7), id(0, most), id(6, most-1), id(5, 1)} {
					m.Id = i
					wantCheck(t, "not among them", m, true)
				}
			}
		}
		m.Attr = bySeq(1)
		wantCheck(t, "no ids", m, true)
	}
}

// P10.1: an MPrepOk of each State, and of none.
func TestCheckOfStates(t *testing.T) {
	for _, state := range edges {
		m := full(api.MPrepOk)
		m.State = state
		wantCheck(t, "with a command", m, 1 <= state && state <= 3)
		m.Cmd, m.Attr = api.Cmd{}, byId()
		wantCheck(t, "with a no-op", m, 1 <= state && state <= 3)
		m = prepOk(api.SNone)
		m.State = state
		wantCheck(t, "with nothing", m, state == 0)
	}
}

// P10.1: an MPrepOk of SNone with one thing more than it has.
func TestCheckOfNone(t *testing.T) {
	for _, bal := range []api.Ballot{of(0, 0), of(0, 6), of(3, 1), of(most, 6)} {
		m := api.Msg{Kind: api.MPrepOk, Id: id(1, 2), Bal: bal}
		wantCheck(t, "nothing", m, true)
		for name, turn := range map[string]func(m *api.Msg){
			"Took's By":     func(m *api.Msg) { m.Took.By = 1 },
			"Took's Round":  func(m *api.Msg) { m.Took.Round = 1 },
			"a Took":        func(m *api.Msg) { m.Took = of(1, 1) },
			"Took below 0":  func(m *api.Msg) { m.Took.Round = -1 },
			"Kind":          func(m *api.Msg) { m.Cmd.Kind = 1 },
			"a barrier":     func(m *api.Msg) { m.Cmd.Kind = 6 },
			"Client":        func(m *api.Msg) { m.Cmd.Client = 1 },
			"the Cmd's Seq": func(m *api.Msg) { m.Cmd.Seq = 1 },
			"Key":           func(m *api.Msg) { m.Cmd.Key = "k" },
			"Val":           func(m *api.Msg) { m.Cmd.Val = "\x00" },
			"Rev":           func(m *api.Msg) { m.Cmd.Rev = 1 },
			"a Cmd":         func(m *api.Msg) { m.Cmd = putOf("k", "v") },
			"one id":        func(m *api.Msg) { m.Attr.Deps = []api.Id{{}} },
			"many ids":      func(m *api.Msg) { m.Attr.Deps = row(4096) },
			"Seq":           func(m *api.Msg) { m.Attr.Seq = 1 },
			"TagSeq":        func(m *api.Msg) { m.Attr.Tag = 1 },
			"TagId":         func(m *api.Msg) { m.Attr.Tag = 2 },
			"an Attr":       func(m *api.Msg) { m.Attr = bySeq(1) },
			"both":          func(m *api.Msg) { m.Cmd, m.Attr = putOf("k", "v"), byId() },
			"Version":       func(m *api.Msg) { m.Version = 1 },
		} {
			wantCheck(t, name, changed(m, turn), false)
		}
	}
}

// P10.1: an MPrepOk with a Took ahead of its Bal, the same, and behind it, by the Round alone, by the By alone, and by both.
func TestCheckOfTheOrderOfBallots(t *testing.T) {
	for _, c := range []struct {
		bal, took api.Ballot
		want      bool
	}{
		{of(5, 3), of(5, 3), true}, {of(0, 0), of(0, 0), true}, {of(most, 6), of(most, 6), true},
		{of(5, 3), of(4, 3), true}, {of(5, 3), of(6, 3), false}, {of(0, 3), of(1, 3), false}, {of(most, 3), of(most-1, 3), true}, {of(most-1, 3), of(most, 3), false},
		{of(5, 3), of(5, 2), true}, {of(5, 3), of(5, 4), false}, {of(0, 0), of(0, 1), false}, {of(0, 6), of(0, 5), true}, {of(most, 5), of(most, 6), false},
		{of(5, 3), of(4, 6), true}, {of(5, 3), of(6, 0), false}, {of(5, 3), of(4, 0), true}, {of(5, 3), of(6, 6), false},
		{of(1, 0), of(0, 6), true}, {of(0, 6), of(1, 0), false},
	} {
		for _, state := range []int{api.SPre, api.SAcc, api.SCom} {
			m := prepOk(state)
			m.Bal, m.Took = c.bal, c.took
			wantCheck(t, "ballots", m, c.want)
		}
	}
}

// P10.1: which Versions there are.
func TestCheckOfVersions(t *testing.T) {
	for _, v := range edges {
		wantCheck(t, "versions", api.Msg{Kind: api.MHello, Version: v}, v == 1 || v == 2)
	}
}

// turns change one part of a message alone; it has two ids or more.
func turns() map[string]func(m *api.Msg) {
	return map[string]func(m *api.Msg){
		"Kind":         func(m *api.Msg) { m.Kind++ },
		"Kind, below":  func(m *api.Msg) { m.Kind-- },
		"Kind, far":    func(m *api.Msg) { m.Kind += 1 << 32 },
		"Id's R":       func(m *api.Msg) { m.Id.R++ },
		"Id's N":       func(m *api.Msg) { m.Id.N++ },
		"Bal's Round":  func(m *api.Msg) { m.Bal.Round++ },
		"Bal's By":     func(m *api.Msg) { m.Bal.By++ },
		"State":        func(m *api.Msg) { m.State++ },
		"State, below": func(m *api.Msg) { m.State-- },
		"Took's Round": func(m *api.Msg) { m.Took.Round++ },
		"Took's By":    func(m *api.Msg) { m.Took.By++ },
		"Cmd's Kind":   func(m *api.Msg) { m.Cmd.Kind++ },
		"Cmd's Client": func(m *api.Msg) { m.Cmd.Client++ },
		"Cmd's Seq":    func(m *api.Msg) { m.Cmd.Seq++ },
		"Cmd's Key":    func(m *api.Msg) { m.Cmd.Key += "a" },
		"Cmd's Val":    func(m *api.Msg) { m.Cmd.Val += "a" },
		"Cmd's Rev":    func(m *api.Msg) { m.Cmd.Rev++ },
		"Attr's Tag":   func(m *api.Msg) { m.Attr.Tag++ },
		"Attr's Seq":   func(m *api.Msg) { m.Attr.Seq++ },
		"the first R":  func(m *api.Msg) { m.Attr.Deps[0].R++ },
		"the last N":   func(m *api.Msg) { m.Attr.Deps[len(m.Attr.Deps)-1].N++ },
		"one id more":  func(m *api.Msg) { m.Attr.Deps = append(m.Attr.Deps, id(6, math.MaxInt)) },
		"one id fewer": func(m *api.Msg) { m.Attr.Deps = m.Attr.Deps[:len(m.Attr.Deps)-1] },
		"no ids":       func(m *api.Msg) { m.Attr.Deps = nil },
		"ids turned":   func(m *api.Msg) { slices.Reverse(m.Attr.Deps) },
		"Version":      func(m *api.Msg) { m.Version++ },
		"Version, far": func(m *api.Msg) { m.Version -= 1 << 32 },
	}
}

func wantSame(t *testing.T, name string, a, b api.Msg, want bool) {
	t.Helper()
	if msg.Same(a, b) != want || msg.Same(b, a) != want {
		t.Errorf("%s: Same of %s and %s is %v, the other way round %v", name, short(a), short(b), msg.Same(a, b), msg.Same(b, a))
	}
}

// starts are messages, right or not, with two ids or more, from which turns go.
func starts() []api.Msg {
	wrong := api.Msg{
		Kind: -9, Id: id(-1, most+1), State: -4, Bal: of(-3, 9), Took: of(most+5, -1), Version: -1,
		Cmd: api.Cmd{Kind: 9, Client: -1, Seq: -1, Key: "\xff", Val: strings.Repeat("v", 2000), Rev: -1}, Attr: api.Attr{Deps: []api.Id{id(9, -9), id(7, -7)}, Seq: -1, Tag: 8},
	}
	many := full(api.MAcc)
	many.Attr = byId(row(4096)...)
	l := []api.Msg{wrong, many, every(0, 0), every(10, 4)}
	for _, kind := range kinds {
		l = append(l, every(kind, kind%4))
	}
	return append(l, basesWith("Attr")...)
}

// P10.1: Same of what is alike, and of what differs in one part alone, right or not.
func TestSame(t *testing.T) {
	for _, m := range starts() {
		wantSame(t, "alike", m, changed(m, func(*api.Msg) {}), true)
		for name, turn := range turns() {
			wantSame(t, name, m, changed(m, turn), false)
			wantSame(t, name+", both", changed(m, turn), changed(m, turn), true)
		}
	}
	for _, a := range bases() {
		for _, b := range bases() {
			wantSame(t, "two of them", a, b, a.Kind == b.Kind && a.State == b.State)
		}
		a.Attr.Deps = nil
		empty := a
		empty.Attr.Deps = []api.Id{}
		wantSame(t, "nil, and a list without elements", a, empty, true)
		one := a
		one.Attr.Deps = []api.Id{{}}
		wantSame(t, "nil, and one id", a, one, false)
	}
	m := every(1, 0)
	wantSame(t, "Bal and Took turned", m, changed(m, func(m *api.Msg) { m.Bal, m.Took = m.Took, m.Bal }), false)
	wantSame(t, "R and N turned", m, changed(m, func(m *api.Msg) { m.Id = id(m.Id.N, m.Id.R) }), false)
	wantSame(t, "State and Version turned", m, changed(m, func(m *api.Msg) { m.State, m.Version = m.Version, m.State }), false)
	wantSame(t, "Key and Val turned", m, changed(m, func(m *api.Msg) { m.Cmd.Key, m.Cmd.Val = m.Cmd.Val, m.Cmd.Key }), false)
	wantSame(t, "the zero ones", api.Msg{}, api.Msg{}, true)
}

func number(v uint64) api.Item { return api.Item{Kind: 0, N: v} }

func text(s string) api.Item { return api.Item{Kind: 1, S: s} }

func list(l ...api.Item) api.Item { return api.Item{Kind: 2, L: slices.Clone(l)} }

func numbers(l ...int) api.Item {
	x := list()
	for _, v := range l {
		x.L = append(x.L, number(uint64(v)))
	}
	return x
}

func ballotOf(b api.Ballot) api.Item { return numbers(b.Round, b.By) }

func cmdOf(c api.Cmd) api.Item {
	x := numbers(c.Kind, c.Client, c.Seq)
	x.L = append(x.L, text(c.Key), text(c.Val), number(uint64(c.Rev)))
	return x
}

func depsOf(l []api.Id) api.Item {
	x := list()
	for _, i := range l {
		x.L = append(x.L, numbers(i.R, i.N).L...)
	}
	return x
}

func attrOf(a api.Attr) api.Item { return list(append(numbers(a.Tag, a.Seq).L, depsOf(a.Deps))...) }

func oldAttrOf(a api.Attr) api.Item { return list(number(uint64(a.Seq)), depsOf(a.Deps)) }

// itemOf has the parts of any message, of one that isn't right too, as the document's table has them.
func itemOf(m api.Msg) api.Item { return itemWith(m, hasOf(m)) }

func itemWith(m api.Msg, words []string) api.Item {
	x := numbers(m.Kind)
	for _, word := range words {
		switch word {
		case "Id":
			x.L = append(x.L, numbers(m.Id.R, m.Id.N).L...)
		case "Bal":
			x.L = append(x.L, ballotOf(m.Bal))
		case "State":
			x.L = append(x.L, number(uint64(m.State)))
		case "Took":
			x.L = append(x.L, ballotOf(m.Took))
		case "Cmd":
			x.L = append(x.L, cmdOf(m.Cmd))
		case "Attr":
			x.L = append(x.L, attrOf(m.Attr))
		case "Version":
			x.L = append(x.L, number(uint64(m.Version)))
		}
	}
	return x
}

// sumOf is the document's sum once more, bit by bit.
func sumOf(b []byte) uint32 {
	rest := uint32(0xffffffff)
	for _, c := range b {
		for at := range 8 {
			differ := rest&1 != uint32(c)>>at&1
			rest >>= 1
			if differ {
				rest ^= 0x82f63b78
			}
		}
	}
	return ^rest
}

// withSum is the version, the sum of the rest, and the rest.
func withSum(version byte, rest []byte) []byte {
	s := sumOf(rest)
	return append([]byte{version, byte(s >> 24), byte(s >> 16 & 255), byte(s >> 8 & 255), byte(s & 255)}, rest...)
}

// framed is an item that has a form in a frame of its version.
func framed(t *testing.T, version byte, x api.Item) []byte {
	t.Helper()
	rest, e := codec.Put(x)
	if e != api.OK {
		t.Fatalf("%v has no form: %d", x, e)
	}
	return withSum(version, rest)
}

// wantTaken asks that m is put as the document says, and is taken as it was.
func wantTaken(t *testing.T, m api.Msg) {
	t.Helper()
	b, e := msg.Put(m)
	if want := framed(t, 2, itemOf(m)); e != api.OK || !bytes.Equal(b, want) {
		t.Errorf("%s is put as % x, %d, want % x", short(m), b, e, want)
	}
	got, e := msg.Take(b)
	if e != api.OK || !alike(got, m) || !msg.Same(got, m) {
		t.Errorf("%s is taken as %s, %d", short(m), short(got), e)
	}
}

// P10.1, P10.3: the document's example, with its bytes.
func TestExample(t *testing.T) {
	m := api.Msg{Kind: api.MHello, Version: api.V2}
	b, e := msg.Put(m)
	if e != api.OK || len(b) != 11 {
		t.Fatalf("an MHello of V2 has %d bytes, %d", len(b), e)
	}
	if b[0] != 2 || !bytes.Equal(b, withSum(2, []byte("\x02\x02\x00\x09\x00\x02"))) {
		t.Errorf("an MHello of V2 is % x", b)
	}
	wantTaken(t, m)
}

// P10.1: of each Kind the bytes behind the sum, as the table has its parts.
func TestPutByteByByte(t *testing.T) {
	bal := "\x02\x02\x00\x02\x00\x01"
	took := "\x02\x02\x00\x01\x00\x04"
	c := "\x02\x06\x00\x02\x00\x01\x00\x01\x01\x01k\x01\x01v\x00\x00"
	a := "\x02\x03\x00\x01\x00\x04\x02\x04\x00\x00\x00\x02\x00\x06\x00\xf9\x01\x2c"
	i := "\x00\x01\x00\x02"
	for kind, want := range map[int]string{
		1: "\x02\x06\x00\x01" + i + bal + c + a,
		2: "\x02\x05\x00\x02" + i + bal + a,
		3: "\x02\x06\x00\x03" + i + bal + c + a,
		4: "\x02\x04\x00\x04" + i + bal,
		5: "\x02\x05\x00\x05" + i + c + a,
		6: "\x02\x04\x00\x06" + i + bal,
		7: "\x02\x08\x00\x07" + i + bal + "\x00\x02" + took + c + a,
		8: "\x02\x04\x00\x08" + i + bal,
		9: "\x02\x02\x00\x09\x00\x02",
	} {
		m := full(kind)
		if len(m.Attr.Deps) > 0 {
			m.Attr.Deps = []api.Id{id(0, 2), id(6, 300)}
		}
		b, e := msg.Put(m)
		if e != api.OK || !bytes.Equal(b, withSum(2, []byte(want))) {
			t.Errorf("Kind %d is put as % x, %d, want % x", kind, b, e, want)
		}
	}
	b, e := msg.Put(prepOk(api.SNone))
	if want := "\x02\x06\x00\x07" + i + bal + "\x00\x00" + "\x02\x02\x00\x00\x00\x00"; e != api.OK || !bytes.Equal(b, withSum(2, []byte(want))) {
		t.Errorf("an MPrepOk of SNone is put as % x, %d, want % x", b, e, want)
	}
}

// P10.3: there and back of each Kind and State, with each Cmd and Attr.
func TestPutAndTake(t *testing.T) {
	for _, m := range bases() {
		wantTaken(t, m)
		if !slices.Contains(hasOf(m), "Attr") {
			continue
		}
		for _, a := range rightAttrs() {
			m.Attr = a
			wantTaken(t, m)
			if slices.Contains(hasOf(m), "Cmd") {
				for _, c := range rightCmds() {
					wantTaken(t, changed(m, func(m *api.Msg) { m.Cmd = c }))
				}
			}
		}
	}
	wantTaken(t, api.Msg{Kind: api.MHello, Version: 1})
}

// P10.3: there and back of the least and the greatest Ids and ballots.
func TestPutAndTakeOfEdges(t *testing.T) {
	ballots := []api.Ballot{of(0, 0), of(0, 6), of(1, 0), of(300, 5), of(most, 0), of(most, 6)}
	for _, i := range []api.Id{id(0, 0), id(6, 0), id(0, most), id(6, most), id(3, 300)} {
		for _, m := range basesWith("Id") {
			m.Id = i
			if len(m.Attr.Deps) > 0 {
				m.Attr.Deps = []api.Id{id(1, 1)}
			}
			if m.Kind == api.MCom {
				wantTaken(t, m)
				continue
			}
			for at, bal := range ballots {
				m.Bal, m.Took = bal, api.Ballot{}
				wantTaken(t, m)
				for _, took := range ballots[:at] {
					if m.Kind == api.MPrepOk && m.State != api.SNone {
						m.Took = took
						wantTaken(t, m)
					}
				}
			}
		}
	}
}

// P10.1: no right message is too long: the longest one has far fewer bytes than a form may have.
func TestNoMessageIsTooLong(t *testing.T) {
	var l []api.Id
	for k := range 4096 {
		l = append(l, id(6, most-4096+k))
	}
	m := prepOk(api.SCom)
	m.Id, m.Bal, m.Took, m.Attr = id(5, most), of(most, 6), of(most, 6), bySeq(most, l...)
	m.Cmd = api.Cmd{Kind: api.KCas, Client: 1 << 20, Seq: most, Key: strings.Repeat("\U0010ffff", 32), Val: strings.Repeat("v", 1024), Rev: most}
	wantTaken(t, m)
	if b, _ := msg.Put(m); len(b) > api.MaxBytes/8 {
		t.Errorf("it has %d bytes", len(b))
	}
}

// P10.1, P10.3: messages by chance, right or not, against the tests' own reading.
func TestOfAnyMessages(t *testing.T) {
	rnd := rand.New(rand.NewSource(10))
	pick := func(l ...int) int { return l[rnd.Intn(len(l))] }
	ballot := func() api.Ballot { return of(pick(0, 0, 1, 2, most, most+1), pick(0, 0, 1, 6, 7)) }
	count := map[bool]int{}
	for range 60000 {
		m := every(rnd.Intn(12)-1, pick(0, 1, 2, 3, 4))
		m.Id = id(pick(0, 1, 6, 7), pick(0, 2, 300, most))
		m.Bal, m.Took = ballot(), ballot()
		cmds, attrs := append(rightCmds(), wrongCmds()...), []api.Attr{bySeq(1), bySeq(4, few()...), byId(row(9)...), byId(), bySeq(0), {}}
		m.Cmd, m.Attr, m.Version = cmds[rnd.Intn(len(cmds))], attrs[rnd.Intn(len(attrs))], pick(0, 1, 2, 3)
		if rnd.Intn(10) > 0 {
			m = only(m, hasOf(m))
		}
		ok := right(m)
		count[ok]++
		wantCheck(t, "by chance", m, ok)
		b := framed(t, 2, itemOf(m))
		got, e := msg.Take(b)
		if taken := right(only(m, hasOf(m))); taken != (e == api.OK) || taken && !alike(got, only(m, hasOf(m))) || !taken && (e != api.ErrForm || !zero(got)) {
			t.Fatalf("the form of %s is taken as %s, %d", short(m), short(got), e)
		}
	}
	if count[true] < 2000 || count[false] < 2000 {
		t.Errorf("by chance %v are right", count)
	}
}

package shim_test

import (
	"bytes"
	"fmt"
	"math"
	"slices"
	"strings"
	"testing"

	"stonecrop/api"
	"stonecrop/attr"
	"stonecrop/ballot"
	"stonecrop/cmd"
	"stonecrop/codec"
	"stonecrop/msg"
	"stonecrop/shim"
)

const most = 1 << 40

// edges are numbers at which something may turn, or go round.
var edges = []int{math.MinInt, -most, -1, 0, 1, 2, 3, 4, 6, 7, 9, 10, 256, 1<<32 + 1, most, most + 1, math.MaxInt}

// otherVersions are none; some go round to those that are.
var otherVersions = []int{-1, 0, 3, 4, 255, 256 + 1, 256 + 2, 1<<32 + 1, 1<<32 + 2, math.MinInt, math.MinInt + 1, math.MinInt + 2, math.MaxInt}

func id(r, n int) api.Id { return api.Id{R: r, N: n} }

func bySeq(seq int, deps ...api.Id) api.Attr { return api.Attr{Deps: deps, Seq: seq, Tag: 1} }

func byId(deps ...api.Id) api.Attr { return api.Attr{Deps: deps, Tag: 2} }

// row is a right set of that many ids; it hasn't 1.2.
func row(n int) []api.Id {
	l := make([]api.Id, n)
	for k := range l {
		l[k] = id(k%7, 300*(k/7))
	}
	return l
}

var put = api.Cmd{Kind: api.KPut, Client: 1, Seq: 1, Key: "k", Val: "v"}

var barrier = api.Cmd{Kind: api.KBarrier}

// cmds are right, of each Kind but KBarrier.
func cmds() []api.Cmd {
	return []api.Cmd{
		put, {}, {Kind: api.KGet, Client: 1, Seq: 1, Key: "a"}, {Kind: api.KDelete, Client: 7, Seq: 300, Key: "\u65e5"}, {Kind: api.KFind, Client: 3, Seq: 9},
		{Kind: api.KPut, Client: 1 << 20, Seq: most, Key: strings.Repeat("\u03b1", 32), Val: strings.Repeat("\xff", 1024)},
		{Kind: api.KCas, Client: 2, Seq: 1 << 32, Key: "k", Val: "v", Rev: most},
	}
}

// attrs are right, of TagSeq.
func attrs() []api.Attr {
	return []api.Attr{bySeq(1), bySeq(most), {Deps: []api.Id{}, Seq: 300, Tag: 1}, bySeq(2, id(1, 3)), bySeq(247, id(0, 0), id(6, most)), bySeq(most, row(4096)...)}
}

// full is a right message of that Kind with an old form, with all that it may have, none of it zero.
func full(kind int) api.Msg {
	m := api.Msg{Kind: kind, Id: id(1, 2), Bal: api.Ballot{Round: 2, By: 1}, Cmd: put, Attr: bySeq(4, id(0, 2), id(6, 300))}
	switch kind {
	case api.MPreOk:
		m.Cmd = api.Cmd{}
	case api.MAccOk, api.MPrep, api.MNo:
		m.Cmd, m.Attr = api.Cmd{}, api.Attr{}
	case api.MCom:
		m.Bal = api.Ballot{}
	case api.MPrepOk:
		m.State, m.Took = api.SAcc, api.Ballot{Round: 1, By: 4}
	case api.MHello:
		m = api.Msg{Kind: kind, Version: api.V2}
	}
	return m
}

func prepOk(state int) api.Msg {
	m := full(api.MPrepOk)
	m.State = state
	return m
}

// nothing is an MPrepOk of who has seen nothing of the instance.
func nothing() api.Msg {
	m := full(api.MPrep)
	m.Kind = api.MPrepOk
	return m
}

// bases are right messages with an old form, of each Kind and of each State.
func bases() []api.Msg {
	var l []api.Msg
	for kind := range 9 {
		l = append(l, full(kind+1))
	}
	return append(l, nothing(), prepOk(api.SPre), prepOk(api.SCom), api.Msg{Kind: api.MPrepOk}, api.Msg{Kind: api.MHello, Version: api.V1})
}

// hasAttr and hasCmd tell what right messages have.
func hasAttr(m api.Msg) bool { return m.Attr.Tag != 0 }

func hasCmd(m api.Msg) bool { return hasAttr(m) && m.Kind != api.MPreOk }

// changed is m with one thing done to it, on memory of its own.
func changed(m api.Msg, turn func(m *api.Msg)) api.Msg {
	m.Attr.Deps = slices.Clone(m.Attr.Deps)
	turn(&m)
	return m
}

// wholes are right messages with an old form, of each Kind and State, with each command and each Attr.
func wholes() []api.Msg {
	l := bases()
	for _, m := range bases() {
		if !hasAttr(m) {
			continue
		}
		for _, a := range attrs() {
			l = append(l, changed(m, func(m *api.Msg) { m.Attr = a }))
		}
		if !hasCmd(m) {
			continue
		}
		for at, c := range cmds() {
			l = append(l, changed(m, func(m *api.Msg) { m.Cmd, m.Attr = c, attrs()[at%5] }))
		}
	}
	return l
}

// onlyNew are right messages without an old form: of TagId, with a barrier, and both.
func onlyNew() []api.Msg {
	var l []api.Msg
	for _, m := range bases() {
		if !hasAttr(m) {
			continue
		}
		for _, a := range []api.Attr{byId(), byId(id(0, 0)), byId(id(1, 3), id(0, 4)), byId(row(4096)...)} {
			l = append(l, changed(m, func(m *api.Msg) { m.Attr = a }))
			if hasCmd(m) {
				l = append(l, changed(m, func(m *api.Msg) { m.Attr, m.Cmd = a, barrier }))
			}
		}
		if hasCmd(m) {
			l = append(l, changed(m, func(m *api.Msg) { m.Cmd = barrier }), changed(m, func(m *api.Msg) { m.Cmd, m.Attr = barrier, bySeq(1) }))
		}
	}
	return l
}

// singles give one part of a message, of those that are numbers, another number.
func singles() []func(m *api.Msg, v int) {
	return []func(m *api.Msg, v int){
		func(m *api.Msg, v int) { m.Kind = v },
		func(m *api.Msg, v int) { m.Id.R = v },
		func(m *api.Msg, v int) { m.Id.N = v },
		func(m *api.Msg, v int) { m.Bal.Round = v },
		func(m *api.Msg, v int) { m.Bal.By = v },
		func(m *api.Msg, v int) { m.Took.Round = v },
		func(m *api.Msg, v int) { m.Took.By = v },
		func(m *api.Msg, v int) { m.State = v },
		func(m *api.Msg, v int) { m.Cmd.Kind = v },
		func(m *api.Msg, v int) { m.Cmd.Client = v },
		func(m *api.Msg, v int) { m.Cmd.Seq = v },
		func(m *api.Msg, v int) { m.Cmd.Rev = v },
		func(m *api.Msg, v int) { m.Attr.Tag = v },
		func(m *api.Msg, v int) { m.Attr.Seq = v },
		func(m *api.Msg, v int) { m.Attr.Deps = []api.Id{id(0, v)} },
		func(m *api.Msg, v int) { m.Attr.Deps = []api.Id{id(v, 1), id(v, 1)} },
		func(m *api.Msg, v int) { m.Version = v },
	}
}

// wrong aren't right, for one thing each, those that have no old form either among them.
func wrong() []api.Msg {
	l := []api.Msg{{}, {Version: 1}, {Kind: 10}, {Kind: -1, Attr: byId()}, {Kind: 10, Cmd: barrier}, {Kind: api.MHello, Version: 3}}
	for _, m := range append(bases(), onlyNew()...) {
		if len(m.Attr.Deps) > 10 {
			continue
		}
		for _, give := range singles() {
			for _, v := range edges {
				l = append(l, changed(m, func(m *api.Msg) { give(m, v) }))
			}
		}
		for _, turn := range []func(m *api.Msg){
			func(m *api.Msg) { m.Attr = byId(m.Id) },
			func(m *api.Msg) { m.Attr = bySeq(4, m.Id) },
			func(m *api.Msg) { m.Attr = bySeq(4, row(4097)...) },
			func(m *api.Msg) { m.Attr = bySeq(4, id(0, 4), id(1, 3)) },
			func(m *api.Msg) { m.Attr = api.Attr{Deps: row(3), Seq: 1, Tag: 2} },
			func(m *api.Msg) { m.Attr = api.Attr{Deps: row(3)} },
			func(m *api.Msg) { m.Cmd.Key = "\xff" },
			func(m *api.Msg) { m.Cmd.Val = strings.Repeat("v", 1025) },
			func(m *api.Msg) { m.Took = api.Ballot{Round: most, By: 6} },
		} {
			l = append(l, changed(m, turn))
		}
	}
	return slices.DeleteFunc(l, func(m api.Msg) bool { return msg.Check(m) == api.OK })
}

func short(m api.Msg) string {
	more := ""
	if n := len(m.Attr.Deps); n > 6 {
		more = fmt.Sprintf(" and so on, %d ids", n)
		m.Attr.Deps = m.Attr.Deps[:6]
	}
	if n := len(m.Cmd.Val); n > 20 {
		more += fmt.Sprintf(", a value of %d bytes", n)
		m.Cmd.Val = m.Cmd.Val[:20]
	}
	return fmt.Sprintf("%+v%s", m, more)
}

func zero(m api.Msg) bool { return msg.Same(m, api.Msg{}) }

func numbers(l ...int) []api.Item {
	var x []api.Item
	for _, v := range l {
		x = append(x, codec.Num(uint64(v)))
	}
	return x
}

func depsOf(l []api.Id) api.Item {
	var parts []api.Item
	for _, i := range l {
		parts = append(parts, numbers(i.R, i.N)...)
	}
	return codec.List(parts...)
}

func newAttr(a api.Attr) api.Item {
	return codec.List(append(numbers(a.Tag, a.Seq), depsOf(a.Deps))...)
}

func oldAttr(a api.Attr) api.Item { return codec.List(append(numbers(a.Seq), depsOf(a.Deps))...) }

// formOf is the document's table once more: the list of any message of a Kind, right or not, with its Attr in either form.
func formOf(m api.Msg, hangs api.Item) api.Item {
	kind, who := numbers(m.Kind), numbers(m.Id.R, m.Id.N)
	bal := []api.Item{codec.List(numbers(m.Bal.Round, m.Bal.By)...)}
	c := append(numbers(m.Cmd.Kind, m.Cmd.Client, m.Cmd.Seq), codec.Text(m.Cmd.Key), codec.Text(m.Cmd.Val))
	does := []api.Item{codec.List(append(c, numbers(m.Cmd.Rev)...)...)}
	on := []api.Item{hangs}
	seen := append(numbers(m.State), codec.List(numbers(m.Took.Round, m.Took.By)...))
	switch {
	case m.Kind == 1 || m.Kind == 3:
		return codec.List(slices.Concat(kind, who, bal, does, on)...)
	case m.Kind == 2:
		return codec.List(slices.Concat(kind, who, bal, on)...)
	case m.Kind == 5:
		return codec.List(slices.Concat(kind, who, does, on)...)
	case m.Kind == 7 && m.State == 0:
		return codec.List(slices.Concat(kind, who, bal, seen)...)
	case m.Kind == 7:
		return codec.List(slices.Concat(kind, who, bal, seen, does, on)...)
	case m.Kind == 9:
		return codec.List(append(kind, numbers(m.Version)...)...)
	}
	return codec.List(slices.Concat(kind, who, bal)...)
}

func oldItem(m api.Msg) api.Item { return formOf(m, oldAttr(m.Attr)) }

func newItem(m api.Msg) api.Item { return formOf(m, newAttr(m.Attr)) }

// framed is an item that has a form, in a frame of that version.
func framed(t *testing.T, version byte, x api.Item) []byte {
	t.Helper()
	b, e := msg.Frame(version, x)
	if e != api.OK {
		t.Fatalf("%v has no form: %d", x, e)
	}
	return b
}

// withSum is any bytes behind a version and their sum.
func withSum(version byte, rest string) []byte {
	rem := ^uint32(0)
	for at := range 8 * len(rest) {
		rem ^= uint32(rest[at/8] >> (at % 8) & 1)
		rem = rem>>1 ^ rem&1*0x82f63b78
	}
	rem = ^rem
	return append([]byte{version, byte(rem >> 24), byte(rem >> 16), byte(rem >> 8), byte(rem)}, rest...)
}

// reader takes parts one by one; ok, if each was what it should be.
type reader struct {
	l  []api.Item
	ok bool
}

func (r *reader) next() api.Item {
	if len(r.l) == 0 {
		r.ok = false
		return api.Item{}
	}
	x := r.l[0]
	r.l = r.l[1:]
	return x
}

func (r *reader) number() int {
	x := r.next()
	r.ok = r.ok && x.Kind == api.KNum && x.N <= most
	return int(x.N)
}

func taken[T any](r *reader, take func(api.Item) (T, bool)) T {
	v, ok := take(r.next())
	r.ok = r.ok && ok
	return v
}

// oldOf is the tests' own reading of the old form; false: the item is none of a right message.
func oldOf(x api.Item) (api.Msg, bool) {
	r := &reader{x.L, x.Kind == api.KList}
	m := api.Msg{Kind: r.number()}
	if m.Kind == 9 {
		m.Version = r.number()
		return m, r.ok && len(r.l) == 0 && (m.Version == 1 || m.Version == 2)
	}
	m.Id.R = r.number()
	m.Id.N = r.number()
	if m.Kind != 5 {
		m.Bal = taken(r, ballot.Take)
	}
	if m.Kind == 7 {
		m.State = r.number()
		m.Took = taken(r, ballot.Take)
	}
	offers := slices.Contains([]int{1, 3, 5}, m.Kind) || m.Kind == 7 && m.State != 0
	if offers {
		m.Cmd = taken(r, cmd.Take)
	}
	if offers || m.Kind == 2 {
		m.Attr = taken(r, attr.TakeOld)
	}
	return m, r.ok && len(r.l) == 0 && m.Cmd.Kind != 6 && msg.Check(m) == api.OK
}

// readOf is the tests' own reading of P11.1 and P11.2: what Read answers.
func readOf(b []byte, version int) (api.Msg, api.Errno) {
	if version == 2 && !bytes.HasPrefix(b, []byte{1}) {
		return msg.Take(b)
	}
	x, e := msg.Open(1, b)
	if e != api.OK {
		return api.Msg{}, e
	}
	if m, ok := oldOf(x); ok {
		return m, api.OK
	}
	return api.Msg{}, api.ErrForm
}

// wantDown asks that m goes down as the document says, by For of V1 too, and up as it was, by Read with either version.
func wantDown(t *testing.T, m api.Msg) {
	t.Helper()
	b, e := shim.Down(m)
	if want := framed(t, 1, oldItem(m)); e != api.OK || !bytes.Equal(b, want) {
		t.Errorf("%s goes down as % x, %d, want % x", short(m), b, e, want)
	}
	if again, e := shim.For(m, api.V1); e != api.OK || !bytes.Equal(again, b) {
		t.Errorf("%s is sent to V1 as % x, %d", short(m), again, e)
	}
	if got, e := shim.Up(b); e != api.OK || !msg.Same(got, m) {
		t.Errorf("%s goes up as %s, %d", short(m), short(got), e)
	}
	for _, version := range []int{api.V1, api.V2} {
		if got, e := shim.Read(b, version); e != api.OK || !msg.Same(got, m) {
			t.Errorf("%s is read by version %d as %s, %d", short(m), version, short(got), e)
		}
	}
}

// wantNoDown asks that m doesn't go down, by For of V1 too.
func wantNoDown(t *testing.T, m api.Msg, want api.Errno) {
	t.Helper()
	if b, e := shim.Down(m); e != want || len(b) != 0 {
		t.Errorf("%s goes down as % x, %d, want %d", short(m), b, e, want)
	}
	if b, e := shim.For(m, api.V1); e != want || len(b) != 0 {
		t.Errorf("%s is sent to V1 as % x, %d, want %d", short(m), b, e, want)
	}
}

// wantUp asks what goes up of b; of V1 it is read so, and of V2, if its first byte is 1.
func wantUp(t *testing.T, name string, b []byte, want api.Msg, wantE api.Errno) {
	t.Helper()
	got := map[string]func() (api.Msg, api.Errno){
		"goes up": func() (api.Msg, api.Errno) { return shim.Up(b) },
		"is read": func() (api.Msg, api.Errno) { return shim.Read(b, api.V1) },
	}
	if bytes.HasPrefix(b, []byte{1}) {
		got["is read by V2"] = func() (api.Msg, api.Errno) { return shim.Read(b, api.V2) }
	}
	for how, do := range got {
		if m, e := do(); e != wantE || !msg.Same(m, want) {
			t.Errorf("%s: % x %s as %s, %d, want %s, %d", name, b[:min(len(b), 200)], how, short(m), e, short(want), wantE)
		}
	}
}

func wantNoUp(t *testing.T, name string, b []byte, want api.Errno) {
	t.Helper()
	wantUp(t, name, b, api.Msg{}, want)
}

// wantNone asks that the item in a right frame is no right message's old form.
func wantNone(t *testing.T, name string, x api.Item) {
	t.Helper()
	wantNoUp(t, name, framed(t, 1, x), api.ErrForm)
}

// wantAsRead asks that an item goes up as the tests read it, and answers whether it does so as a message.
func wantAsRead(t *testing.T, name string, x api.Item) bool {
	t.Helper()
	b := framed(t, 1, x)
	m, e := readOf(b, 1)
	wantUp(t, name, b, m, e)
	return e == api.OK
}

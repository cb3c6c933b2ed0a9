package shim_test

import (
	"fmt"
	"math"
	"slices"
	"strings"
	"testing"

	"stonecrop/api"
	"stonecrop/attr"
	"stonecrop/codec"
	"stonecrop/msg"
	"stonecrop/shim"
)

// P11.1, P11.3: the new form doesn't go up, whatever its Attr is, nor with a sum that isn't so: ErrTooNew.
func TestUpOfNewForms(t *testing.T) {
	for _, m := range append(wholes(), onlyNew()...) {
		b, e := msg.Put(m)
		if e != api.OK {
			t.Fatalf("Put of %s is %d", short(m), e)
		}
		wantNoUp(t, "the new form", b, api.ErrTooNew)
		b[4] ^= 1
		wantNoUp(t, "the new form, another sum", b, api.ErrTooNew)
		if len(b) < 200 {
			for n := 5; n < len(b); n++ {
				wantNoUp(t, "the new form, cut off", b[:n], api.ErrTooNew)
			}
		}
	}
}

// hangs are items in the place of an Attr, none of which is the old form of one.
func hangs() []api.Item {
	set := depsOf([]api.Id{id(0, 4), id(6, 300)})
	l := []api.Item{
		{}, set, codec.Text(""), codec.List(), codec.List(set), codec.List(codec.Num(4)), codec.List(codec.Num(4), codec.Num(0)), codec.List(set, codec.Num(4)),
		codec.List(codec.Num(0), set), codec.List(codec.Num(most+1), set), codec.List(codec.Num(1<<63+4), set), codec.List(codec.Num(4), set, set),
		codec.List(codec.Num(4), depsOf([]api.Id{id(1, 2)})), codec.List(codec.Num(4), depsOf([]api.Id{id(0, 4), id(1, 3)})), codec.List(codec.Num(4), depsOf(row(4097))),
	}
	for _, a := range append(attrs(), byId(), byId(row(7)...), api.Attr{Deps: row(3), Seq: 1, Tag: 2}) {
		l = append(l, newAttr(a))
	}
	return l
}

// P11.1: the old form with an Attr in its new form, of either tag, or with whatever is none of TagSeq.
func TestUpOfOtherAttrs(t *testing.T) {
	for _, m := range bases() {
		if !hasAttr(m) {
			continue
		}
		for at, x := range hangs() {
			wantNone(t, fmt.Sprintf("%s, with %d in the place of its Attr", short(m), at), formOf(m, x))
		}
	}
	for _, m := range onlyNew() {
		wantNone(t, short(m)+", the new form at version 1", newItem(m))
		if m.Attr.Tag == 2 {
			wantNone(t, short(m)+", without its tag", oldItem(m))
		}
	}
}

// P11.1: a KBarrier in each Kind that has a command, with an Attr that has an old form.
func TestUpOfBarriers(t *testing.T) {
	n := 0
	for _, m := range wholes() {
		if hasCmd(m) {
			m.Cmd = barrier
			wantNone(t, short(m), oldItem(m))
			n++
		}
	}
	if n < 20 {
		t.Errorf("only %d have a command", n)
	}
}

// P11.1: the old forms of what isn't right.
func TestUpOfWhatIsNotRight(t *testing.T) {
	n := 0
	for _, m := range wrong() {
		// What its Kind doesn't name isn't in its form, nor is its tag: they can't tell.
		if _, ok := oldOf(oldItem(m)); ok {
			continue
		}
		wantNone(t, short(m), oldItem(m))
		n++
	}
	if n < 500 {
		t.Errorf("only %d aren't right", n)
	}
}

// P11.1: items that are no list, and lists that no Kind has.
func TestUpOfOtherItems(t *testing.T) {
	for _, v := range []uint64{0, 1, 2, 9, 10, most, math.MaxUint64} {
		wantNone(t, "a number", codec.Num(v))
		wantNone(t, "a list of a number", codec.List(codec.Num(v)))
		wantNone(t, "a list of a list", codec.List(codec.List(codec.Num(v), codec.Num(2))))
	}
	for _, s := range []string{"", "1", "\x09", "\x02\x02\x00\x09\x00\x02", strings.Repeat("a", 5000)} {
		wantNone(t, "a text", codec.Text(s))
		wantNone(t, "a list of a text", codec.List(codec.Text(s), codec.Num(2)))
	}
	for n := range 12 {
		wantNone(t, "zero numbers", codec.List(make([]api.Item, n)...))
	}
	for kind := range 10 {
		many := make([]api.Item, 10000)
		many[0] = codec.Num(uint64(kind))
		wantNone(t, "many parts", codec.List(many...))
	}
}

// P11.1: what is just short enough for an old form, and would be too long for a new one.
func TestUpOfTheLongest(t *testing.T) {
	for _, m := range bases() {
		if !hasAttr(m) {
			continue
		}
		x := oldItem(m)
		b := framed(t, 1, codec.List(append(x.L, codec.Text(""))...))
		for _, fewer := range []int{0, 1, 2, 3} {
			y := codec.List(append(x.L, codec.Text(strings.Repeat("x", api.MaxBytes-len(b)+2-fewer)))...)
			wantNone(t, "as long as may be", y)
		}
	}
	b := withSum(1, strings.Repeat("\x00", api.MaxBytes+1))
	wantNoUp(t, "too long", b, api.ErrLimit)
}

// P11.1: lists with fewer parts and with more, at each place.
func TestUpOfFewerAndMoreParts(t *testing.T) {
	for _, m := range bases() {
		x := oldItem(m)
		for n := range len(x.L) {
			name := fmt.Sprintf("%s, part %d", short(m), n)
			wantNone(t, name+": those ahead", codec.List(x.L[:n]...))
			wantNone(t, name+": those behind", codec.List(x.L[n+1:]...))
			wantNone(t, name+": without it", codec.List(slices.Concat(x.L[:n], x.L[n+1:])...))
			for _, more := range []api.Item{{}, codec.Num(1), codec.Text(""), codec.List(), oldAttr(bySeq(1)), newAttr(bySeq(1)), x.L[n]} {
				wantNone(t, name+": one more ahead of it", codec.List(slices.Insert(slices.Clone(x.L), n, more)...))
				wantNone(t, name+": one more behind all", codec.List(append(slices.Clone(x.L), more)...))
			}
		}
		wantNone(t, "twice", codec.List(slices.Concat(x.L, x.L)...))
		wantNone(t, "in a list", codec.List(x))
	}
}

// P11.1: an MPrepOk of SNone with a command and an Attr, and of other States without one of them.
func TestUpOfOtherStates(t *testing.T) {
	head := oldItem(nothing()).L
	c, a := oldItem(full(api.MPrepOk)).L[6], oldAttr(bySeq(4))
	for _, more := range [][]api.Item{{c}, {a}, {c, a}, {{}}, {{}, {}}, {codec.List(), codec.List()}, {c, newAttr(bySeq(4))}} {
		wantNone(t, "SNone with more", codec.List(slices.Concat(head, more)...))
	}
	for _, state := range []uint64{1, 2, 3, 4, math.MaxUint64} {
		l := slices.Clone(head)
		l[4] = codec.Num(state)
		for _, more := range [][]api.Item{{}, {c}, {a}, {a, c}, {{}, {}}, {c, newAttr(bySeq(4))}} {
			wantNone(t, fmt.Sprintf("State %d without a part", state), codec.List(slices.Concat(l, more)...))
		}
		if ok := wantAsRead(t, "with both", codec.List(append(l, c, a)...)); ok != (state < 4) {
			t.Errorf("State %d: %v", state, ok)
		}
	}
}

// P11.1: each Kind's number with the parts of each other one.
func TestUpOfOtherKinds(t *testing.T) {
	for _, m := range bases() {
		for _, kind := range append(slices.Clone(edges), 5, 8, 256+m.Kind, 1<<32+m.Kind, math.MinInt+m.Kind) {
			x := oldItem(m)
			x.L[0] = codec.Num(uint64(kind))
			ok := wantAsRead(t, fmt.Sprintf("%s as Kind %d", short(m), kind), x)
			other := changed(m, func(m *api.Msg) { m.Kind = kind })
			// Right are those of the Kinds that have the same parts.
			if want := msg.Check(other) == api.OK && codec.Same(oldItem(other), x); ok != want {
				t.Errorf("%s goes up: %v, want %v", short(other), ok, want)
			}
		}
	}
}

// spots are the ways to all parts of x, at all depths, the one to x first.
func spots(x api.Item) [][]int {
	out := [][]int{nil}
	for at, part := range x.L {
		for _, way := range spots(part) {
			out = append(out, append([]int{at}, way...))
		}
	}
	return out
}

// withPart is x, on memory of its own, with what turn makes of the part at that spot.
func withPart(x api.Item, way []int, turn func(api.Item) api.Item) api.Item {
	x.L = slices.Clone(x.L)
	if len(way) == 0 {
		return turn(x)
	}
	x.L[way[0]] = withPart(x.L[way[0]], way[1:], turn)
	return x
}

// P11.1: at each spot, at all depths, a number, a text or a list where another one stands, with whatever is like it; and lists with fewer and more.
func TestUpOfPartsOfOtherKinds(t *testing.T) {
	for _, m := range bases() {
		x := oldItem(m)
		for _, way := range spots(x) {
			for at, turn := range []func(api.Item) api.Item{
				func(was api.Item) api.Item { return codec.List(was) },
				func(was api.Item) api.Item { return codec.List(was, was) },
				func(was api.Item) api.Item { return codec.List(was.L...) },
				func(was api.Item) api.Item { return codec.List(append(was.L, codec.Num(1))...) },
				func(was api.Item) api.Item { return codec.List(was.L[:max(len(was.L), 1)-1]...) },
				func(was api.Item) api.Item { return codec.Num(was.N) },
				func(was api.Item) api.Item { return codec.Num(uint64(len(was.L))) },
				func(was api.Item) api.Item { return codec.Text(was.S) },
				func(was api.Item) api.Item { return codec.Text(fmt.Sprint(was.N)) },
				func(was api.Item) api.Item { return codec.Text(string(rune(was.N))) },
			} {
				y := withPart(x, way, turn)
				name := fmt.Sprintf("%s, %d at %v", short(m), at, way)
				if ok := wantAsRead(t, name, y); ok && at < 2 {
					t.Errorf("%s goes up", name)
				}
			}
		}
	}
}

// P11.1: numbers too great at each spot, those that go round to small ones in 32 bits or in 63 among them.
func TestUpOfGreatNumbers(t *testing.T) {
	for _, m := range bases() {
		x := oldItem(m)
		for _, way := range spots(x) {
			isNumber := false
			withPart(x, way, func(was api.Item) api.Item { isNumber = was.Kind == api.KNum; return was })
			if !isNumber {
				continue
			}
			for _, add := range []uint64{most + 1, 1 << 41, 1 << 62, 1<<63 - most, 1 << 63, math.MaxUint64 - most, math.MaxUint64 - 300} {
				wantNone(t, fmt.Sprintf("%s, %d more at %v", short(m), add, way), withPart(x, way, func(was api.Item) api.Item { return codec.Num(was.N + add) }))
			}
			for _, add := range []uint64{1, 2, 9, 256, 1 << 32, most - 1, most} {
				wantAsRead(t, fmt.Sprintf("%s, %d more at %v", short(m), add, way), withPart(x, way, func(was api.Item) api.Item { return codec.Num(was.N + add) }))
			}
		}
	}
}

// P11.1: two parts of a list turned, at all depths.
func TestUpOfTurnedParts(t *testing.T) {
	for _, m := range bases() {
		x := oldItem(m)
		for _, way := range spots(x) {
			n := 0
			withPart(x, way, func(was api.Item) api.Item { n = len(was.L); return was })
			for at := range n {
				for to := range at {
					wantAsRead(t, fmt.Sprintf("%s, %d and %d at %v", short(m), at, to, way), withPart(x, way, func(was api.Item) api.Item {
						was.L[at], was.L[to] = was.L[to], was.L[at]
						return was
					}))
				}
			}
		}
	}
}

// P11.1: nothing, and 1 to 5 bytes, whatever the first one is.
func TestUpOfFewBytes(t *testing.T) {
	wantNoUp(t, "nothing", nil, api.ErrShort)
	wantNoUp(t, "no bytes", []byte{}, api.ErrShort)
	form, _ := shim.Down(full(api.MAcc))
	for first := range 256 {
		for n := 1; n < 5; n++ {
			b := make([]byte, n)
			b[0] = byte(first)
			wantNoUp(t, "few bytes", b, api.ErrShort)
			b = append([]byte{byte(first)}, form[1:n]...)
			wantNoUp(t, "few bytes of an old form", b, api.ErrShort)
		}
		want := map[int]api.Errno{0: api.ErrForm, 1: api.ErrShort}
		wantSum := map[int]api.Errno{0: api.ErrForm, 1: api.ErrSum}
		if first > 1 {
			want[first], wantSum[first] = api.ErrTooNew, api.ErrTooNew
		}
		wantNoUp(t, "five bytes, no item", []byte{byte(first), 0, 0, 0, 0}, want[first])
		wantNoUp(t, "five bytes, another sum", []byte{byte(first), 0, 0, 0, 1}, wantSum[first])
		wantNoUp(t, "five bytes of an old form", append([]byte{byte(first)}, form[1:5]...), wantSum[first])
	}
}

// P11.1: each first byte, and which error comes first where there are two: the first byte's, the sum's, layer 3's, and then that it is no right message's.
func TestUpOfTwoErrors(t *testing.T) {
	none, broken, deep := "\x02\x02\x00\x09\x00\x03", "\x02\x02\x00\x09\x03", strings.Repeat("\x02\x01", 16)
	for first := range 256 {
		rests := map[string]api.Errno{
			"\x02\x02\x00\x09\x00\x02": api.OK,
			none:                       api.ErrForm,
			"\x00\x00":                 api.ErrForm,
			"":                         api.ErrShort,
			"\x02\x02\x00\x09\x00":     api.ErrShort,
			"\x02\x03\x00\x0a\x00":     api.ErrShort,
			"\x02\xc8\x00\x09":         api.ErrShort,
			broken:                     api.ErrForm,
			none + "\x00":              api.ErrLong,
			"\x01\x00" + broken:        api.ErrLong,
			deep + "\x00\x00":          api.ErrLimit,
			deep:                       api.ErrShort,
		}
		for rest, want := range rests {
			wantSum := api.ErrSum
			switch {
			case first > 1:
				want, wantSum = api.ErrTooNew, api.ErrTooNew
			case first < 1:
				want, wantSum = api.ErrForm, api.ErrForm
			}
			b := withSum(byte(first), rest)
			if want == api.OK {
				wantUp(t, "an MHello", b, full(api.MHello), api.OK)
			} else {
				wantNoUp(t, "first bytes", b, want)
			}
			b[3] ^= 0x80
			wantNoUp(t, "first bytes, another sum", b, wantSum)
		}
	}
}

// P11.1: the sum turned, each bit of each byte turned, a byte cut off at each place, and a byte more.
func TestUpOfTurnedAndCutOnes(t *testing.T) {
	for _, m := range bases() {
		b, _ := shim.Down(m)
		for at := range 8 * len(b) {
			want := api.ErrSum
			switch {
			case at == 0:
				want = api.ErrForm
			case at < 8:
				want = api.ErrTooNew
			}
			b[at/8] ^= 1 << (at % 8)
			wantNoUp(t, fmt.Sprintf("%s, bit %d", short(m), at), b, want)
			b[at/8] ^= 1 << (at % 8)
		}
		for n := range b {
			want := api.ErrSum
			if n < 5 {
				want = api.ErrShort
			}
			wantNoUp(t, fmt.Sprintf("%s, its first %d bytes", short(m), n), b[:n], want)
		}
		for v := range 256 {
			wantNoUp(t, short(m)+", a byte more", append(slices.Clone(b), byte(v)), api.ErrSum)
		}
		wantNoUp(t, short(m)+", a byte more, with its sum", withSum(1, string(b[5:])+"\x00"), api.ErrLong)
		wantNoUp(t, short(m)+", a byte fewer, with its sum", withSum(1, string(b[5:len(b)-1])), api.ErrShort)
		for at := 1; at < 5; at++ {
			b[at] = ^b[at]
		}
		wantNoUp(t, short(m)+", the sum turned", b, api.ErrSum)
		wantUp(t, short(m), withSum(1, string(b[5:])), m, api.OK)
	}
}

func wantRead(t *testing.T, name string, b []byte, version int, want api.Msg, wantE api.Errno) {
	t.Helper()
	if m, e := shim.Read(b, version); e != wantE || !msg.Same(m, want) {
		t.Errorf("%s: version %d reads % x as %s, %d, want %s, %d", name, version, b[:min(len(b), 200)], short(m), e, short(want), wantE)
	}
}

// P11.2: Read of V2 has both forms, of which each is told by its first byte alone; of V1 the old one.
func TestReadOfBothForms(t *testing.T) {
	for _, m := range append(wholes(), onlyNew()...) {
		b, _ := msg.Put(m)
		wantRead(t, "the new form", b, api.V2, m, api.OK)
		wantRead(t, "the new form", b, api.V1, api.Msg{}, api.ErrTooNew)
		c, e := shim.Down(m)
		if e != api.OK {
			continue
		}
		wantRead(t, "the old form", c, api.V2, m, api.OK)
		wantRead(t, "the old form", c, api.V1, m, api.OK)
		if !hasAttr(m) {
			continue
		}
		b[0], c[0] = c[0], b[0]
		wantRead(t, "the new form with the first byte 1", b, api.V2, api.Msg{}, api.ErrForm)
		wantRead(t, "the new form with the first byte 1", b, api.V1, api.Msg{}, api.ErrForm)
		wantRead(t, "the old form with the first byte 2", c, api.V2, api.Msg{}, api.ErrForm)
		wantRead(t, "the old form with the first byte 2", c, api.V1, api.Msg{}, api.ErrTooNew)
	}
}

// P11.2: Read of nothing, and of other first bytes, with the right sum, with another one, and with too few bytes.
func TestReadOfFirstBytes(t *testing.T) {
	for _, version := range []int{api.V1, api.V2} {
		wantRead(t, "nothing", nil, version, api.Msg{}, api.ErrShort)
		wantRead(t, "no bytes", []byte{}, version, api.Msg{}, api.ErrShort)
	}
	for _, first := range []byte{0, 1, 2, 3, 255} {
		for _, version := range []int{api.V1, api.V2} {
			want, wantSum := api.OK, api.ErrSum
			switch {
			case int(first) > version:
				want, wantSum = api.ErrTooNew, api.ErrTooNew
			case first == 0:
				want, wantSum = api.ErrForm, api.ErrForm
			}
			m := full(api.MNo)
			b := framed(t, first, oldItem(m))
			if want == api.OK {
				wantRead(t, "first bytes", b, version, m, api.OK)
			} else {
				wantRead(t, "first bytes", b, version, api.Msg{}, want)
			}
			b[4] ^= 1
			wantRead(t, "first bytes, another sum", b, version, api.Msg{}, wantSum)
			for n := 1; n < 5; n++ {
				wantRead(t, "few bytes", b[:n], version, api.Msg{}, api.ErrShort)
			}
		}
	}
}

// P11.2: Read with other versions: ErrArg ahead of all.
func TestReadOfOtherVersions(t *testing.T) {
	old, _ := shim.Down(full(api.MAcc))
	newer, _ := msg.Put(full(api.MAcc))
	l := [][]byte{nil, {}, {0}, {1}, {2}, {3}, {255}, old, newer, old[:9], newer[:9], make([]byte, 2*api.MaxBytes)}
	for _, first := range []byte{0, 1, 2, 3, 255} {
		l = append(l, framed(t, first, oldItem(full(api.MHello))), framed(t, first, codec.Num(1)), []byte{first, 1, 1, 1, 1, 1})
	}
	for _, b := range l {
		for _, version := range otherVersions {
			wantRead(t, "other versions", b, version, api.Msg{}, api.ErrArg)
		}
	}
}

// FuzzRead: P11.1 to P11.3, P1: of any bytes, with any version, what is read is as the tests read it, and what V1 reads goes down as they are.
func FuzzRead(f *testing.F) {
	for _, m := range bases() {
		b, _ := shim.Down(m)
		c, _ := msg.Put(m)
		f.Add(b, 1)
		f.Add(c, 2)
		f.Add(b[5:], 2)
		f.Add(c[5:], 1)
	}
	x := oldItem(full(api.MCom))
	x.L[4] = attr.Item(byId())
	b, _ := msg.Frame(1, x)
	f.Add(b, 3)
	f.Fuzz(func(t *testing.T, b []byte, version int) {
		for _, b := range [][]byte{b, withSum(1, string(b)), withSum(2, string(b))} {
			want, wantE := readOf(b, 1)
			wantUp(t, "any bytes", b, want, wantE)
			want, wantE = readOf(b, 2)
			wantRead(t, "any bytes", b, 2, want, wantE)
			if version != 1 && version != 2 {
				wantRead(t, "any bytes", b, version, api.Msg{}, api.ErrArg)
			}
			m, e := shim.Up(b)
			again, e2 := shim.Down(m)
			if e == api.OK && (e2 != api.OK || !slices.Equal(again, b)) {
				t.Errorf("% x goes up, and down as % x, %d", b, again, e2)
			}
		}
	})
}

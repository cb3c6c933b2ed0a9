package msg_test

import (
	"fmt"
	"math"
	"slices"
	"strings"
	"testing"

	"stonecrop/api"
	"stonecrop/codec"
	"stonecrop/msg"
)

// wantNone asks that the item in a right frame is no message's.
func wantNone(t *testing.T, name string, x api.Item) {
	t.Helper()
	wantTakeError(t, name, framed(t, 2, x), api.ErrForm)
}

func wantTakeError(t *testing.T, name string, b []byte, want api.Errno) {
	t.Helper()
	if m, e := msg.Take(b); e != want || !zero(m) {
		t.Errorf("%s: % x is taken as %s, %d, want %d", name, b[:min(len(b), 200)], short(m), e, want)
	}
}

// wholes are right messages of each Kind, State and tag, with few ids, of each Cmd.
func wholes() []api.Msg {
	l := append(bases(), api.Msg{Kind: api.MPrepOk}, api.Msg{Kind: api.MNo}, api.Msg{Kind: api.MHello, Version: 1})
	for at, c := range rightCmds() {
		m := full([]int{api.MPre, api.MAcc, api.MCom, api.MPrepOk}[at%4])
		m.Cmd, m.Attr = c, bySeq(at+1, few()...)
		l = append(l, changed(m, func(m *api.Msg) { m.Attr = byId(few()[at%5:]...) }), m)
	}
	return l
}

// P10.1: numbers, texts, and lists that no Kind has.
func TestTakeOfOtherItems(t *testing.T) {
	for _, v := range []uint64{0, 1, 2, 9, 10, most, math.MaxUint64} {
		wantNone(t, "a number", number(v))
		wantNone(t, "a list of a number", list(number(v)))
		wantNone(t, "a list of a list", list(list(number(v), number(2))))
	}
	for _, s := range []string{"", "1", "\x09", "\x02\x02\x00\x09\x00\x02", strings.Repeat("a", 5000)} {
		wantNone(t, "a text", text(s))
		wantNone(t, "a list of a text", list(text(s), number(2)))
	}
	wantNone(t, "the empty list", list())
	wantNone(t, "many items", api.Item{Kind: 2, L: make([]api.Item, 100000)})
	for n := range 12 {
		wantNone(t, "zero numbers", api.Item{Kind: 2, L: make([]api.Item, n)})
	}
}

// P10.1: lists with fewer parts and with more.
func TestTakeOfFewerAndMoreParts(t *testing.T) {
	for _, m := range wholes() {
		x := itemOf(m)
		for n := range len(x.L) {
			wantNone(t, fmt.Sprintf("the first %d parts", n), list(x.L[:n]...))
			wantNone(t, fmt.Sprintf("behind the first %d parts", n+1), list(x.L[n+1:]...))
			wantNone(t, fmt.Sprintf("without part %d", n), list(slices.Concat(x.L[:n], x.L[n+1:])...))
			for _, more := range []api.Item{number(0), number(1), text(""), list(), numbers(0, 0), cmdOf(api.Cmd{}), attrOf(bySeq(1)), x.L[n]} {
				wantNone(t, fmt.Sprintf("one part more ahead of part %d", n), list(slices.Insert(slices.Clone(x.L), n, more)...))
			}
		}
		for _, more := range []api.Item{number(0), number(1), text(""), list(), numbers(0, 0), cmdOf(api.Cmd{}), attrOf(bySeq(1)), x} {
			wantNone(t, "one part more, behind", list(append(slices.Clone(x.L), more)...))
			wantNone(t, "two parts more, behind", list(append(slices.Clone(x.L), more, more)...))
		}
		wantNone(t, "twice", list(slices.Concat(x.L, x.L)...))
		wantNone(t, "in a list", list(x))
	}
}

// P10.1: each Kind's number with the parts of each other one; those of the same parts are theirs.
func TestTakeOfOtherKinds(t *testing.T) {
	for _, m := range wholes() {
		for _, kind := range append(slices.Clone(kinds), -1, 0, 10, 11, 256+m.Kind, 1<<32+m.Kind, math.MinInt+m.Kind, math.MaxInt) {
			x := itemOf(m)
			x.L[0] = number(uint64(kind))
			other := changed(m, func(m *api.Msg) { m.Kind = kind })
			if !slices.Equal(hasOf(m), hasOf(other)) {
				wantNone(t, fmt.Sprintf("Kind %d of the parts of %d", kind, m.Kind), x)
				continue
			}
			if got, e := msg.Take(framed(t, 2, x)); e != api.OK || !alike(got, other) {
				t.Errorf("%s is taken as %s, %d", short(other), short(got), e)
			}
		}
	}
}

// P10.1: the parts of a message in another order.
func TestTakeOfTurnedParts(t *testing.T) {
	for _, m := range wholes() {
		x := itemOf(m)
		for at := range x.L {
			for to := range at {
				y := list(x.L...)
				y.L[at], y.L[to] = y.L[to], y.L[at]
				if y.L[at].Kind != y.L[to].Kind {
					wantNone(t, fmt.Sprintf("%s, parts %d and %d turned", short(m), at, to), y)
				}
				got, e := msg.Take(framed(t, 2, y))
				if e == api.OK && (!right(got) || !codec.Same(itemOf(got), y)) {
					t.Errorf("%s with parts %d and %d turned is taken as %s", short(m), at, to, short(got))
				}
			}
		}
	}
}

// P10.1: the old form of an Attr is none of a message in the new form.
func TestTakeOfOldForms(t *testing.T) {
	for _, m := range wholes() {
		x := itemOf(m)
		if len(m.Attr.Deps) == 0 || !right(m) {
			continue
		}
		x.L[len(x.L)-1] = oldAttrOf(m.Attr)
		wantNone(t, "an Attr in its old form", x)
		wantTakeError(t, "a message in the old form", framed(t, 1, x), api.ErrForm)
		wantTakeError(t, "a message of a newer form", framed(t, 3, itemOf(m)), api.ErrTooNew)
	}
}

// P10.1: an MPrepOk of SNone with a Cmd and an Attr behind, and of others without them.
func TestTakeOfOtherStates(t *testing.T) {
	for _, bal := range []api.Ballot{of(0, 0), of(3, 1), of(most, 6)} {
		head := itemOf(api.Msg{Kind: api.MPrepOk, Id: id(1, 2), Bal: bal})
		for _, c := range append(rightCmds(), wrongCmds()...) {
			wantNone(t, "SNone with a Cmd", list(append(slices.Clone(head.L), cmdOf(c))...))
			for _, a := range []api.Attr{{}, bySeq(1), bySeq(4, few()...), byId(), byId(few()...), bySeq(0)} {
				wantNone(t, "SNone with both", list(append(slices.Clone(head.L), cmdOf(c), attrOf(a))...))
			}
		}
		wantNone(t, "SNone with an Attr", list(append(slices.Clone(head.L), attrOf(bySeq(1)))...))
		wantNone(t, "SNone with two numbers", list(append(slices.Clone(head.L), number(0), number(0))...))
		wantNone(t, "SNone with two empty lists", list(append(slices.Clone(head.L), list(), list())...))
		for _, took := range []api.Ballot{of(0, 1), of(1, 0), bal, of(most, 6)} {
			x := list(head.L...)
			x.L[5] = ballotOf(took)
			if took != (api.Ballot{}) {
				wantNone(t, "SNone with a Took", x)
			}
		}
	}
	for _, state := range []int{1, 2, 3, 4, -1} {
		m := full(api.MPrepOk)
		m.State = state
		head := itemWith(m, named(7)[:4])
		wantNone(t, "neither Cmd nor Attr", head)
		wantNone(t, "no Attr", list(append(slices.Clone(head.L), cmdOf(m.Cmd))...))
		wantNone(t, "no Cmd", list(append(slices.Clone(head.L), attrOf(m.Attr))...))
		wantNone(t, "turned", list(append(slices.Clone(head.L), attrOf(m.Attr), cmdOf(m.Cmd))...))
		wantNone(t, "zero items", list(append(slices.Clone(head.L), number(0), number(0))...))
	}
}

// copied is x on memory of its own.
func copied(x api.Item) api.Item {
	x.L = slices.Clone(x.L)
	for at := range x.L {
		x.L[at] = copied(x.L[at])
	}
	return x
}

// spots are the ways to all parts of x, at all depths, the one to x first.
func spots(x api.Item) [][]int {
	out := [][]int{nil}
	for at, part := range x.L {
		for _, way := range spots(part) {
			out = append(out, append([]int{at}, way...))
		}
	}
	return out
}

func partAt(x *api.Item, way []int) *api.Item {
	for _, at := range way {
		x = &x.L[at]
	}
	return x
}

// withPart is x with another part at that spot, on memory of its own.
func withPart(x api.Item, way []int, part api.Item) api.Item {
	y := copied(x)
	*partAt(&y, way) = part
	return y
}

// P10.1: at each spot, at all depths, a part of another kind, with whatever is like it.
func TestTakeOfPartsOfOtherKinds(t *testing.T) {
	for _, m := range wholes() {
		x := itemOf(m)
		for _, way := range spots(x) {
			was := *partAt(&x, way)
			wrong := []api.Item{list(was), list(was, was)}
			if was.Kind != 0 {
				wrong = append(wrong, number(0), number(1), number(uint64(len(was.L))))
			}
			if was.Kind != 1 {
				wrong = append(wrong, text(""), text("1"), text(fmt.Sprint(was.N)), text(string(rune(was.N))))
			}
			if was.Kind != 2 {
				wrong = append(wrong, list(), list(number(was.N)), list(text(was.S)))
			}
			for _, part := range wrong {
				wantNone(t, fmt.Sprintf("%s, at %v", short(m), way), withPart(x, way, part))
			}
		}
	}
}

// P10.1: lists within with fewer items and with more.
func TestTakeOfWrongLists(t *testing.T) {
	for _, m := range wholes() {
		x := itemOf(m)
		for _, way := range spots(x) {
			was := *partAt(&x, way)
			if was.Kind != 2 {
				continue
			}
			name := fmt.Sprintf("%s, at %v", short(m), way)
			for _, more := range []api.Item{number(0), number(1), text(""), list()} {
				wantNone(t, name+": one more", withPart(x, way, list(append(slices.Clone(was.L), more)...)))
			}
			if len(was.L) > 0 {
				wantNone(t, name+": without the first one", withPart(x, way, list(was.L[1:]...)))
				wantNone(t, name+": without the last one", withPart(x, way, list(was.L[:len(was.L)-1]...)))
			}
			if len(was.L) > 0 && !codec.Same(was, depsOf(m.Attr.Deps)) {
				wantNone(t, name+": empty", withPart(x, way, list()))
			}
		}
	}
}

// P10.1: numbers too great at each spot, those that go round to small ones in 32 bits or in 63 among them.
func TestTakeOfGreatNumbers(t *testing.T) {
	for _, m := range wholes() {
		x := itemOf(m)
		for _, way := range spots(x) {
			was := *partAt(&x, way)
			if was.Kind != 0 {
				continue
			}
			for _, v := range []uint64{most + 1, 1 << 41, 1<<62 + was.N, 1<<63 - 1, 1<<63 + was.N, math.MaxUint64 - 1, math.MaxUint64, -was.N | 1<<63, most + 1 + was.N} {
				wantNone(t, fmt.Sprintf("%s, %d at %v", short(m), v, way), withPart(x, way, number(v)))
			}
		}
		small := [][]int{{0}}
		switch {
		case m.Kind == api.MHello:
			small = append(small, []int{1})
		case m.Kind != api.MCom:
			small = append(small, []int{1}, []int{3, 1})
		}
		if m.Kind == api.MPrepOk {
			small = append(small, []int{4}, []int{5, 1})
		}
		for _, way := range small {
			was := partAt(&x, way).N
			for _, v := range []uint64{10, 11, 256 + was, 1<<16 + was, 1<<32 + was, most} {
				wantNone(t, fmt.Sprintf("%s, %d at %v", short(m), v, way), withPart(x, way, number(v)))
			}
		}
	}
}

// faulty aren't right, though their form could have all their parts.
func faulty() []api.Msg {
	var l []api.Msg
	for _, m := range bases() {
		for name, give := range singles() {
			if !slices.Contains(hasOf(m), partOf(name)) || partOf(name) == "State" {
				continue
			}
			for _, v := range edges {
				if wrong := changed(m, func(m *api.Msg) { give(m, v) }); !right(wrong) {
					l = append(l, wrong)
				}
			}
		}
		if !slices.Contains(hasOf(m), "Attr") {
			continue
		}
		for _, a := range wrongAttrs() {
			l = append(l, changed(m, func(m *api.Msg) { m.Attr = a }))
		}
		l = append(l, changed(m, func(m *api.Msg) { m.Id = few()[0] }), changed(m, func(m *api.Msg) { m.Id = few()[2] }), changed(m, func(m *api.Msg) { m.Attr = byId(m.Id) }))
		if slices.Contains(hasOf(m), "Cmd") {
			for _, c := range wrongCmds() {
				l = append(l, changed(m, func(m *api.Msg) { m.Cmd = c }))
			}
		}
	}
	m := full(api.MPrepOk)
	for _, took := range []api.Ballot{of(2, 2), of(3, 0), of(2, 6), of(most, 0)} {
		l = append(l, changed(m, func(m *api.Msg) { m.Took = took }))
	}
	return append(l, changed(m, func(m *api.Msg) { m.State = 4 }), changed(m, func(m *api.Msg) { m.State = -1 }))
}

// P10.1: the forms of what isn't right.
func TestTakeOfWhatIsNotRight(t *testing.T) {
	l := faulty()
	for _, m := range l {
		if right(m) {
			t.Errorf("%s is right", short(m))
		}
		wantNone(t, short(m), itemOf(m))
	}
	if len(l) < 1000 {
		t.Errorf("only %d aren't right", len(l))
	}
}

// P10.1: Open's errors go ahead of ErrForm, and the form of no message ahead of none.
func TestTakeErrors(t *testing.T) {
	none := numbers(9, 3)
	for name, c := range map[string]struct {
		b    []byte
		want api.Errno
	}{
		"nothing":                     {nil, api.ErrShort},
		"no bytes":                    {[]byte{}, api.ErrShort},
		"one byte":                    {[]byte{2}, api.ErrShort},
		"one byte above":              {[]byte{3}, api.ErrShort},
		"four bytes":                  {[]byte{2, 0, 0, 0}, api.ErrShort},
		"no item, its sum":            {[]byte{2, 0, 0, 0, 0}, api.ErrShort},
		"no item, another sum":        {[]byte{2, 0, 0, 0, 1}, api.ErrSum},
		"a version above":             {framed(t, 3, none), api.ErrTooNew},
		"the greatest version":        {framed(t, 255, numbers(9, 2)), api.ErrTooNew},
		"a version above, no sum":     {[]byte{3, 1, 1, 1, 1, 0, 0}, api.ErrTooNew},
		"a version below":             {framed(t, 1, numbers(9, 2)), api.ErrForm},
		"no version":                  {framed(t, 0, numbers(9, 2)), api.ErrForm},
		"a version below, no sum":     {[]byte{1, 1, 1, 1, 1, 0, 0}, api.ErrForm},
		"no message's, no sum":        {[]byte{2, 1, 1, 1, 1, 0, 0}, api.ErrSum},
		"no message's":                {framed(t, 2, none), api.ErrForm},
		"no kind of items":            {withSum(2, []byte{3, 0}), api.ErrForm},
		"an item that ends":           {withSum(2, []byte{2, 2, 0, 9, 0}), api.ErrShort},
		"a number's form too long":    {withSum(2, []byte{2, 2, 0, 9, 0, 0xf8, 2}), api.ErrForm},
		"bytes behind a message":      {withSum(2, []byte{2, 2, 0, 9, 0, 2, 0}), api.ErrLong},
		"more than a form has":        {withSum(2, make([]byte, api.MaxBytes+1)), api.ErrLimit},
		"nested too deep":             {withSum(2, []byte(strings.Repeat("\x02\x01", 16)+"\x00\x01")), api.ErrLimit},
		"more parts than there are":   {withSum(2, []byte{2, 200, 0, 9}), api.ErrShort},
		"a message in the old form":   {framed(t, 1, itemOf(full(api.MPre))), api.ErrForm},
		"a message without its sum":   {append([]byte{2}, framed(t, 2, numbers(9, 2))[5:]...), api.ErrSum},
		"a message of which is twice": {slices.Concat(framed(t, 2, numbers(9, 2)), framed(t, 2, numbers(9, 2))), api.ErrSum},
	} {
		wantTakeError(t, name, c.b, c.want)
	}
}

// smalls are messages with few bytes, of each Kind.
func smalls() []api.Msg {
	l := slices.Concat(bases(), []api.Msg{{Kind: api.MHello, Version: 1}, {Kind: api.MPrepOk}})
	for at := range l {
		if len(l[at].Attr.Deps) > 2 {
			l[at].Attr.Deps = []api.Id{id(0, 2), id(6, 300)}
		}
	}
	return l
}

func putOr(t *testing.T, m api.Msg) []byte {
	t.Helper()
	b, e := msg.Put(m)
	if e != api.OK {
		t.Fatalf("Put of %s is %d", short(m), e)
	}
	return b
}

// P10.3: each byte turned into each other one: the first byte, or the sum, tells.
func TestTakeOfTurnedBytes(t *testing.T) {
	for _, m := range smalls() {
		b := putOr(t, m)
		for at, was := range b {
			for v := range 256 {
				want := api.ErrSum
				switch {
				case byte(v) == was:
					continue
				case at == 0 && byte(v) > 2:
					want = api.ErrTooNew
				case at == 0:
					want = api.ErrForm
				}
				b[at] = byte(v)
				wantTakeError(t, fmt.Sprintf("%s, byte %d", short(m), at), b, want)
			}
			b[at] = was
		}
		if got, e := msg.Take(b); e != api.OK || !alike(got, m) {
			t.Errorf("%s is taken as %s, %d", short(m), short(got), e)
		}
	}
}

// P10.3: each beginning, and what is cut off ahead; and one byte more.
func TestTakeOfCutOffOnes(t *testing.T) {
	long := prepOk(api.SCom)
	long.Attr.Deps = row(500)
	long.Cmd.Val = strings.Repeat("\x00", 1000)
	for _, m := range append(smalls(), long) {
		b := putOr(t, m)
		for n := range b {
			want := api.ErrSum
			if n < 5 {
				want = api.ErrShort
			}
			wantTakeError(t, fmt.Sprintf("%s, its first %d bytes", short(m), n), slices.Clone(b[:n]), want)
			wantTakeError(t, fmt.Sprintf("%s, its first %d bytes, the others behind", short(m), n), b[:n], want)
			if got, e := msg.Take(b[n+1:]); e == api.OK || !zero(got) {
				t.Errorf("%s behind byte %d is taken as %s", short(m), n, short(got))
			}
		}
		for v := range 256 {
			wantTakeError(t, fmt.Sprintf("%s, one byte more", short(m)), append(slices.Clone(b), byte(v)), api.ErrSum)
		}
	}
}

// flipped is b with the bits of a row turned from a bit on, the lowest of each byte first.
func flipped(b []byte, from int, bits uint32) []byte {
	b = slices.Clone(b)
	for at := 0; bits>>at != 0; at++ {
		if bits>>at&1 == 1 {
			b[(from+at)/8] ^= 1 << ((from + at) % 8)
		}
	}
	return b
}

// P10.3: 1 to 32 bits in a row turned among the rest, and among the sum.
func TestTakeOfTurnedBits(t *testing.T) {
	for _, m := range smalls() {
		b := putOr(t, m)
		for n := 1; n <= 32; n++ {
			all := uint32(1<<n - 1)
			ends := 1 | uint32(1)<<(n-1)
			for from := 40; from+n <= 8*len(b); from++ {
				for _, bits := range []uint32{all, ends, ends | all&0xa5a5a5a5, ends | all&0x82f63b78} {
					wantTakeError(t, fmt.Sprintf("%s, %x from bit %d on", short(m), bits, from), flipped(b, from, bits), api.ErrSum)
				}
			}
			for from := 8; from+n <= 40; from++ {
				wantTakeError(t, fmt.Sprintf("%s, %d bits of its sum from %d on", short(m), n, from), flipped(b, from, all), api.ErrSum)
			}
		}
	}
}

// FuzzTake: P10.1, P1: of any bytes, what is taken is a right message that is put as they are.
func FuzzTake(f *testing.F) {
	for _, m := range append(smalls(), wholes()...) {
		if b, e := msg.Put(m); e == api.OK && len(b) < 2000 {
			f.Add(b)
			f.Add(b[5:])
		}
	}
	f.Fuzz(func(t *testing.T, b []byte) {
		for _, b := range [][]byte{b, withSum(2, b)} {
			m, e := msg.Take(b)
			again, _ := msg.Put(m)
			if e == api.OK && (!right(m) || !slices.Equal(again, b)) || e != api.OK && !zero(m) {
				t.Errorf("% x: taken as %s, %d", b, short(m), e)
			}
			if _, open := msg.Open(2, b); open != api.OK && e != open || open == api.OK && e != api.OK && e != api.ErrForm {
				t.Errorf("% x: taken with %d, opened with %d", b, e, open)
			}
		}
	})
}

package msg_test

import (
	"bytes"
	"fmt"
	"math"
	"runtime"
	"slices"
	"strings"
	"testing"

	"stonecrop/api"
	"stonecrop/codec"
	"stonecrop/msg"
)

// versions are those that the program has, one below them, and those above.
var versions = []byte{0, 1, 2, 3, 127, 128, 254, 255}

// items have a form, of each kind.
func items() []api.Item {
	deep := number(7)
	for range 15 {
		deep = list(deep)
	}
	return []api.Item{
		number(0), number(5), number(247), number(248), number(300), number(math.MaxUint64),
		text(""), text("a"), text("\x00\xff\x80"), text(strings.Repeat("x", 300)),
		list(), list(list(), list()), list(number(5), text("a")), list(number(9), number(2)), list(make([]api.Item, 300)...), deep,
	}
}

// formless have no form, and the error that tells why.
func formless() map[string]struct {
	x    api.Item
	want api.Errno
} {
	type row = struct {
		x    api.Item
		want api.Errno
	}
	deep := number(7)
	for range 16 {
		deep = list(deep)
	}
	wrong := api.Item{Kind: 3}
	long := text(strings.Repeat("x", api.MaxBytes))
	return map[string]row{
		"kind 3":              {wrong, api.ErrForm},
		"kind -1":             {api.Item{Kind: -1}, api.ErrForm},
		"the least kind":      {api.Item{Kind: math.MinInt}, api.ErrForm},
		"kind 2^32":           {api.Item{Kind: 1 << 32}, api.ErrForm},
		"a number with text":  {api.Item{Kind: 0, S: "x"}, api.ErrForm},
		"a number with items": {api.Item{Kind: 0, L: []api.Item{{}}}, api.ErrForm},
		"a text with number":  {api.Item{Kind: 1, N: 1}, api.ErrForm},
		"a list with number":  {api.Item{Kind: 2, N: 1}, api.ErrForm},
		"a list with text":    {api.Item{Kind: 2, S: "x"}, api.ErrForm},
		"a wrong part":        {list(number(1), wrong), api.ErrForm},
		"too deep":            {deep, api.ErrLimit},
		"too long":            {long, api.ErrLimit},
		"too many":            {list(make([]api.Item, api.MaxBytes/2)...), api.ErrLimit},
		"deep, then wrong":    {list(deep, wrong), api.ErrLimit},
		"wrong, then deep":    {list(wrong, deep), api.ErrForm},
		"long, then wrong":    {list(long, wrong), api.ErrForm},
	}
}

// P10.2: frames of each kind of item, of each version, and there and back.
func TestFrame(t *testing.T) {
	for _, version := range versions {
		for _, x := range items() {
			b, e := msg.Frame(version, x)
			if want := framed(t, version, x); e != api.OK || !bytes.Equal(b, want) {
				t.Errorf("version %d, %v: % x, %d, want % x", version, x, b, e, want)
			}
			y, e := msg.Open(version, b)
			if e != api.OK || !codec.Same(x, y) {
				t.Errorf("version %d, %v: opened as %v, %d", version, x, y, e)
			}
		}
		for name, c := range formless() {
			if b, e := msg.Frame(version, c.x); e != c.want || len(b) != 0 {
				t.Errorf("version %d, %s: %d bytes, %d, want %d", version, name, len(b), e, c.want)
			}
		}
	}
}

// P10.2: frames byte by byte; the sums are written out.
func TestFrameByteByByte(t *testing.T) {
	for _, c := range []struct {
		version byte
		x       api.Item
		want    string
	}{
		{2, list(number(9), number(2)), "\x02\x80\xaf\xdf\x5d\x02\x02\x00\x09\x00\x02"},
		{1, list(number(9), number(2)), "\x01\x80\xaf\xdf\x5d\x02\x02\x00\x09\x00\x02"},
		{255, number(0), "\xff\xf1\x61\x77\xd2\x00\x00"},
		{0, text("a"), "\x00\x45\x2a\xb9\x12\x01\x01a"},
	} {
		if b, e := msg.Frame(c.version, c.x); e != api.OK || string(b) != c.want {
			t.Errorf("version %d, %v: % x, %d, want % x", c.version, c.x, b, e, c.want)
		}
	}
}

// P10.2: forms of just as many bytes as there may be.
func TestFrameLimit(t *testing.T) {
	just := text(strings.Repeat("t", api.MaxBytes-5))
	b, e := msg.Frame(2, just)
	if e != api.OK || len(b) != api.MaxBytes+5 {
		t.Fatalf("%d bytes, %d", len(b), e)
	}
	if x, e := msg.Open(2, b); e != api.OK || !codec.Same(x, just) {
		t.Errorf("opened with %d", e)
	}
	if b, e := msg.Frame(2, text(strings.Repeat("t", api.MaxBytes-4))); e != api.ErrLimit || len(b) != 0 {
		t.Errorf("one byte more: %d bytes, %d", len(b), e)
	}
	wantOpen(t, "one byte more", 2, withSum(2, append(b[5:], 0)), api.ErrLimit)
	wantTakeError(t, "a text", b, api.ErrForm)
}

func wantOpen(t *testing.T, name string, version byte, b []byte, want api.Errno) {
	t.Helper()
	x, e := msg.Open(version, b)
	if e != want || want != api.OK && !codec.Same(x, api.Item{}) {
		t.Errorf("%s: Open of % x at %d is %v, %d, want %d", name, b[:min(len(b), 100)], version, x, e, want)
	}
}

// P10.2: nothing, and 1 to 5 bytes, whatever they are; and one below a version, at it, and above.
func TestOpenOfFewBytes(t *testing.T) {
	for _, version := range versions {
		wantOpen(t, "nothing", version, nil, api.ErrShort)
		for n := range 5 {
			for _, first := range versions {
				b := bytes.Repeat([]byte{first}, n)
				wantOpen(t, "few bytes", version, b, api.ErrShort)
				wantOpen(t, "few bytes of a right one", version, framed(t, first, number(0))[:n], api.ErrShort)
			}
		}
		for _, first := range versions {
			want, wantSum := api.ErrShort, api.ErrSum
			switch {
			case first > version:
				want, wantSum = api.ErrTooNew, api.ErrTooNew
			case first < version:
				want, wantSum = api.ErrForm, api.ErrForm
			}
			wantOpen(t, "five bytes, no item", version, []byte{first, 0, 0, 0, 0}, want)
			for at := 1; at < 5; at++ {
				b := []byte{first, 0, 0, 0, 0}
				b[at] = 1
				wantOpen(t, "five bytes, not their sum", version, b, wantSum)
			}
		}
	}
}

// P10.2: each version against each other one, and which error comes first where there are two.
func TestOpenOfVersions(t *testing.T) {
	for at := range 256 {
		for is := range 256 {
			want, none := api.OK, api.ErrForm
			sum := api.ErrSum
			switch {
			case is > at:
				want, sum, none = api.ErrTooNew, api.ErrTooNew, api.ErrTooNew
			case is < at:
				want, sum, none = api.ErrForm, api.ErrForm, api.ErrForm
			}
			b := framed(t, byte(is), list(number(9), number(2)))
			wantOpen(t, "versions", byte(at), b, want)
			b[4] ^= 1
			wantOpen(t, "versions, and a sum that isn't so", byte(at), b, sum)
			b = withSum(byte(is), []byte{3, 0})
			wantOpen(t, "versions, and no form", byte(at), b, none)
			b[4] ^= 128
			wantOpen(t, "versions, a sum that isn't so, and no form", byte(at), b, sum)
		}
	}
}

// P10.2: layer 3's errors, of what has the right sum; and with another one the sum's.
func TestOpenOfWhatIsNoForm(t *testing.T) {
	for _, c := range []struct {
		rest string
		want api.Errno
	}{
		{"", api.ErrShort}, {"\x00", api.ErrShort}, {"\x00\xf8", api.ErrShort}, {"\x01\x02a", api.ErrShort}, {"\x02\x01", api.ErrShort}, {"\x02\xf8\xff\x00\x00", api.ErrShort},
		{"\x03", api.ErrForm}, {"\xff\x00", api.ErrForm}, {"\x00\xf8\x00", api.ErrForm}, {"\x02\x01\x03\x00", api.ErrForm},
		{"\x00\x00\x00", api.ErrLong}, {"\x02\x00\x00", api.ErrLong}, {"\x01\x01aa", api.ErrLong},
		{strings.Repeat("\x02\x01", 16) + "\x00\x00", api.ErrLimit}, {strings.Repeat("\x00", api.MaxBytes+1), api.ErrLimit}, {strings.Repeat("\x03", 4*api.MaxBytes), api.ErrLimit},
	} {
		for _, version := range []byte{0, 1, 2, 255} {
			b := withSum(version, []byte(c.rest))
			wantOpen(t, "no form", version, b, c.want)
			b[1] ^= 1
			wantOpen(t, "no form, and a sum that isn't so", version, b, api.ErrSum)
		}
	}
}

// P10.2: the sum turned, and each byte of it in the place of another one.
func TestOpenOfOtherSums(t *testing.T) {
	for _, x := range items() {
		b := framed(t, 2, x)
		s, rest := b[1:5], b[5:]
		for name, other := range map[string][]byte{
			"turned":                {^s[0], ^s[1], ^s[2], ^s[3]},
			"the lowest byte first": {s[3], s[2], s[1], s[0]},
			"zero":                  {0, 0, 0, 0},
			"all ones":              {255, 255, 255, 255},
			"moved on":              {s[3], s[0], s[1], s[2]},
			"with the version":      sumBytes(b[:1], rest),
			"of the form alone":     sumBytes(rest[1:]),
			"of nothing":            sumBytes(),
			"one more":              {s[0], s[1], s[2], s[3] + 1},
		} {
			want := api.ErrSum
			if bytes.Equal(other, s) {
				want = api.OK
			}
			wantOpen(t, name, 2, slices.Concat([]byte{2}, other, rest), want)
		}
	}
}

func sumBytes(parts ...[]byte) []byte { return withSum(0, bytes.Join(parts, nil))[1:5] }

// P10.2: each bit of each byte turned, a byte cut off at each place, and a byte more.
func TestOpenOfTurnedBits(t *testing.T) {
	for _, x := range items() {
		b := framed(t, 2, x)
		for at := range 8 * len(b) {
			want := api.ErrSum
			switch {
			case at == 1:
				want = api.ErrForm
			case at < 8:
				want = api.ErrTooNew
			}
			wantOpen(t, fmt.Sprintf("bit %d turned", at), 2, flipped(b, at, 1), want)
		}
		for n := range b {
			want := api.ErrSum
			if n < 5 {
				want = api.ErrShort
			}
			wantOpen(t, "cut off", 2, b[:n], want)
		}
		for v := range 256 {
			wantOpen(t, "a byte more", 2, append(slices.Clone(b), byte(v)), api.ErrSum)
		}
		wantOpen(t, "a byte more, with its sum", 2, withSum(2, append(slices.Clone(b[5:]), 0)), api.ErrLong)
		wantOpen(t, "a byte fewer, with its sum", 2, withSum(2, b[5:len(b)-1]), api.ErrShort)
	}
}

// room is m with more memory behind its Deps, which holds ids that nobody else has.
func room(m api.Msg) api.Msg {
	all := append(slices.Clone(m.Attr.Deps), id(-7, -7), m.Id, id(-7, -5))
	m.Attr.Deps = all[:len(m.Attr.Deps)]
	return m
}

func untouched(m, was api.Msg) bool {
	behind := m.Attr.Deps[len(m.Attr.Deps) : len(m.Attr.Deps)+3]
	return alike(m, was) && slices.Equal(behind, []api.Id{id(-7, -7), was.Id, id(-7, -5)})
}

// overIds writes other things over all of l, and behind it as far as its memory goes; overBytes and overItem likewise.
func overIds(l []api.Id) {
	l = l[:cap(l)]
	for at := range l {
		l[at] = id(-9, -9)
	}
}

func overBytes(b []byte) {
	b = b[:cap(b)]
	for at := range b {
		b[at] = 0xee
	}
}

func overItem(x api.Item) {
	l := x.L[:cap(x.L)]
	for at := range l {
		overItem(l[at])
		l[at] = text("over")
	}
}

// several are right or not, of few ids and of many.
func several() []api.Msg { return append(append(bases(), starts()...), api.Msg{}) }

// R4, R6: asking changes nothing, with what lies behind it, and is answered the same each time.
func TestAskingChangesNothing(t *testing.T) {
	for _, one := range several() {
		for _, other := range several() {
			a, b := room(one), room(other)
			e, same := msg.Check(a), msg.Same(a, b)
			form, e2 := msg.Put(a)
			if !untouched(a, one) || !untouched(b, other) {
				t.Fatalf("%s or %s was changed", short(one), short(other))
			}
			if (e == api.OK) != right(one) || same != alike(one, other) || e2 != e {
				t.Fatalf("%s and %s: what lies behind was read", short(one), short(other))
			}
			again, e3 := msg.Put(a)
			if msg.Check(a) != e || msg.Same(a, b) != same || e3 != e || !bytes.Equal(form, again) {
				t.Fatalf("%s and %s have two answers", short(one), short(other))
			}
		}
	}
}

// R4: what Put answers is new memory: neither the message nor another answer changes with it, nor it with them.
func TestPutMemory(t *testing.T) {
	for _, one := range several() {
		m := room(one)
		b, _ := msg.Put(m)
		second, _ := msg.Put(m)
		was := bytes.Clone(b)
		overBytes(second)
		if !untouched(m, one) || !bytes.Equal(b, was) {
			t.Fatalf("%s: writing over its form changed something", short(one))
		}
		overIds(m.Attr.Deps)
		if !bytes.Equal(b, was) {
			t.Fatalf("%s: its form changed with it", short(one))
		}
	}
}

// roomBytes is b with more memory behind it, which holds 0x55.
func roomBytes(b []byte) []byte {
	return append(slices.Clone(b), bytes.Repeat([]byte{0x55}, 64)...)[:len(b)]
}

func sameBytes(b, was []byte) bool {
	return bytes.Equal(b, was) && bytes.Equal(b[len(b):len(b)+64], bytes.Repeat([]byte{0x55}, 64))
}

// R4: Take leaves the bytes as they were, with what lies behind them; what is taken stays when they are written over, and the other way round.
func TestTakeMemory(t *testing.T) {
	for _, one := range append(bases(), wholes()...) {
		for _, form := range [][]byte{putOr(t, one), framed(t, 2, list(itemOf(one))), framed(t, 3, itemOf(one))} {
			b := roomBytes(form)
			m, e := msg.Take(b)
			second, _ := msg.Take(b)
			first := changed(m, func(*api.Msg) {})
			overIds(second.Attr.Deps)
			if !sameBytes(b, form) || !alike(m, first) {
				t.Fatalf("%s: taking it, or writing over it, changed something", short(one))
			}
			overBytes(b)
			if !alike(m, first) || e == api.OK && !alike(m, one) {
				t.Fatalf("%s: what was taken changed with the bytes", short(one))
			}
		}
	}
}

// roomItem is x with more memory behind each of its lists.
func roomItem(x api.Item) api.Item {
	n := len(x.L)
	all := append(slices.Clone(x.L), text("behind"), number(3))
	for at := range n {
		if all[at].Kind == api.KList {
			all[at] = roomItem(all[at])
		}
	}
	x.L = all[:n]
	return x
}

// behind tells whether what lies behind the lists of x is as roomItem laid it.
func behind(x api.Item) bool {
	n := len(x.L)
	more := x.L[n : n+2]
	for _, part := range x.L {
		if part.Kind == api.KList && !behind(part) {
			return false
		}
	}
	return codec.Same(more[0], text("behind")) && codec.Same(more[1], number(3))
}

// R4: Frame and Open leave what they are handed as it was, and share nothing with it, nor their answers with each other.
func TestFrameAndOpenMemory(t *testing.T) {
	l := items()
	for _, m := range wholes() {
		l = append(l, itemOf(m))
	}
	for _, one := range l {
		x := roomItem(one)
		b, _ := msg.Frame(2, x)
		second, _ := msg.Frame(2, x)
		form := bytes.Clone(b)
		overBytes(second)
		if !codec.Same(x, one) || !behind(x) || !bytes.Equal(b, form) {
			t.Fatalf("%v: framing it, or writing over its frame, changed something", one)
		}
		overItem(x)
		if !bytes.Equal(b, form) {
			t.Fatalf("%v: its frame changed with it", one)
		}
		b = roomBytes(form)
		y, e := msg.Open(2, b)
		other, _ := msg.Open(2, b)
		overItem(other)
		if e != api.OK || !codec.Same(y, one) || !sameBytes(b, form) {
			t.Fatalf("%v: opening it, or writing over it, changed something", one)
		}
		overBytes(b)
		if !codec.Same(y, one) {
			t.Fatalf("%v: what was opened changed with the bytes", one)
		}
		for at := range y.L {
			rest := copied(y)
			overItem(y.L[at])
			y.L[at] = rest.L[at]
			if !codec.Same(y, rest) {
				t.Fatalf("%v: two of its lists share memory", one)
			}
		}
	}
}

// R1: what is above the limits is refused ahead of making as much of it.
func TestNothingAboveTheLimitIsMade(t *testing.T) {
	m := full(api.MCom)
	m.Attr = bySeq(1, row(1<<18)...)
	long := text(strings.Repeat("x", 1<<23))
	rest := withSum(2, make([]byte, 1<<23))
	old := withSum(1, make([]byte, 1<<23))
	var before, after runtime.MemStats
	runtime.ReadMemStats(&before)
	e := msg.Check(m)
	_, e2 := msg.Put(m)
	_, e3 := msg.Frame(2, long)
	_, e4 := msg.Open(2, rest)
	_, e5 := msg.Take(rest)
	_, e6 := msg.Take(old)
	runtime.ReadMemStats(&after)
	got := []api.Errno{e, e2, e3, e4, e5, e6}
	if !slices.Equal(got, []api.Errno{api.ErrForm, api.ErrForm, api.ErrLimit, api.ErrLimit, api.ErrLimit, api.ErrForm}) {
		t.Errorf("above the limit: %v", got)
	}
	if made := after.TotalAlloc - before.TotalAlloc; made > 1<<16 {
		t.Errorf("%d bytes of memory for what is refused", made)
	}
}

// FuzzOpen: P10.2, P1: of any bytes, what is opened is framed as they are; and what has a sum is whole.
func FuzzOpen(f *testing.F) {
	for _, x := range items() {
		if b, e := msg.Frame(2, x); e == api.OK {
			f.Add(byte(2), b)
			f.Add(byte(1), b)
			f.Add(byte(3), b[5:])
		}
	}
	f.Fuzz(func(t *testing.T, version byte, b []byte) {
		for _, b := range [][]byte{b, withSum(version, b)} {
			x, e := msg.Open(version, b)
			again, e2 := msg.Frame(version, x)
			if e == api.OK && (e2 != api.OK || !bytes.Equal(again, b)) || e != api.OK && !codec.Same(x, api.Item{}) {
				t.Errorf("% x at %d: opened as %v, %d", b, version, x, e)
			}
			if len(b) < 5 && e != api.ErrShort || len(b) >= 5 && (e == api.ErrTooNew) != (b[0] > version) {
				t.Errorf("% x at %d: %d", b, version, e)
			}
		}
	})
}

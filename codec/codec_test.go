package codec_test

import (
	"bytes"
	"math"
	"math/rand"
	"runtime"
	"strings"
	"testing"

	"stonecrop/api"
	"stonecrop/codec"
	"stonecrop/num"
)

// nested is x in that many lists.
func nested(x api.Item, lists int) api.Item {
	for range lists {
		x = api.Item{Kind: api.KList, L: []api.Item{x}}
	}
	return x
}

// heads is the beginning of the form of an item in that many lists, each of one item.
func heads(lists int) []byte { return bytes.Repeat([]byte{2, 1}, lists) }

func join(parts ...[]byte) []byte { return bytes.Join(parts, nil) }

// twin is x in memory of its own.
func twin(x api.Item) api.Item {
	var l []api.Item
	for _, y := range x.L {
		l = append(l, twin(y))
	}
	return api.Item{Kind: x.Kind, N: x.N, S: x.S, L: l}
}

// alike holds items against each other as the document's words say, by calls within calls.
func alike(a, b api.Item) bool {
	if a.Kind != b.Kind || a.N != b.N || a.S != b.S || len(a.L) != len(b.L) {
		return false
	}
	for i := range a.L {
		if !alike(a.L[i], b.L[i]) {
			return false
		}
	}
	return true
}

type formed struct {
	x api.Item
	b []byte
}

// forms are right items of each kind, with their forms written out.
func forms() []formed {
	long := strings.Repeat("x", 248)
	return []formed{
		{codec.List(codec.Num(5), codec.Text("a")), []byte{2, 2, 0, 5, 1, 1, 'a'}},
		{codec.Num(0), []byte{0, 0}},
		{codec.Num(247), []byte{0, 0xf7}},
		{codec.Num(248), []byte{0, 0xf8, 0xf8}},
		{codec.Num(300), []byte{0, 0xf9, 1, 0x2c}},
		{codec.Num(math.MaxUint64), []byte{0, 0xff, 255, 255, 255, 255, 255, 255, 255, 255}},
		{codec.Text(""), []byte{1, 0}},
		{codec.Text("hi"), []byte{1, 2, 'h', 'i'}},
		{codec.Text("\x00\xff\x80é"), []byte{1, 5, 0, 0xff, 0x80, 0xc3, 0xa9}},
		{codec.Text(long[:247]), join([]byte{1, 0xf7}, []byte(long[:247]))},
		{codec.Text(long), join([]byte{1, 0xf8, 0xf8}, []byte(long))},
		{codec.List(), []byte{2, 0}},
		{codec.List(codec.List(), codec.List()), []byte{2, 2, 2, 0, 2, 0}},
		{codec.List(codec.Text(""), codec.List(codec.Num(2), codec.List()), codec.Num(300)), []byte{2, 3, 1, 0, 2, 2, 0, 2, 2, 0, 0, 0xf9, 1, 0x2c}},
		{codec.List(make([]api.Item, 248)...), join([]byte{2, 0xf8, 0xf8}, make([]byte, 2*248))},
		{nested(codec.List(), 15), join(heads(15), []byte{2, 0})},
		{nested(codec.Num(1), 15), join(heads(15), []byte{0, 1})},
		{nested(codec.Text("z"), 15), join(heads(15), []byte{1, 1, 'z'})},
	}
}

func mustPut(t *testing.T, x api.Item) []byte {
	t.Helper()
	b, e := codec.Put(x)
	if e != api.OK {
		t.Fatalf("Put: %v", e)
	}
	return b
}

func wantPut(t *testing.T, name string, x api.Item, want api.Errno) {
	t.Helper()
	if b, e := codec.Put(x); e != want || want != api.OK && len(b) != 0 {
		t.Errorf("%s: Put answers %d bytes and %v, want %v", name, len(b), e, want)
	}
}

func wantGet(t *testing.T, b []byte, want api.Errno, place int) {
	t.Helper()
	x, e, at := codec.Get(b)
	if e != want || at != place {
		t.Errorf("Get(% x): %v at %d, want %v at %d", b[:min(len(b), 40)], e, at, want, place)
	}
	if want != api.OK && !alike(x, api.Item{}) {
		t.Errorf("Get(% x): an item beside %v", b[:min(len(b), 40)], e)
	}
}

// P3.1: the items that Num, Text and List make.
func TestMadeItems(t *testing.T) {
	for _, v := range []uint64{0, 1, 247, 248, math.MaxUint64} {
		if x := codec.Num(v); !alike(x, api.Item{Kind: api.KNum, N: v}) {
			t.Errorf("Num(%d) is %v", v, x)
		}
	}
	for _, s := range []string{"", "a", "\x00", "\xff\xfe", "ключ"} {
		if x := codec.Text(s); !alike(x, api.Item{Kind: api.KText, S: s}) {
			t.Errorf("Text(%q) is %v", s, x)
		}
	}
	wrong := api.Item{Kind: -7, N: 3, S: "s", L: []api.Item{{Kind: 9}}}
	for _, l := range [][]api.Item{nil, {}, {codec.Num(4)}, {codec.Text("a"), codec.List(), codec.Num(0)}, {wrong, wrong}} {
		if x := codec.List(l...); !alike(x, api.Item{Kind: api.KList, L: l}) {
			t.Errorf("List(%v) is %v", l, x)
		}
	}
}

// P3.1: the forms, the document's example among them.
func TestPutForms(t *testing.T) {
	for _, f := range forms() {
		if b := mustPut(t, f.x); !bytes.Equal(b, f.b) {
			t.Errorf("Put: % x, want % x", b, f.b)
		}
	}
}

// P3.1: ErrForm: kinds that are none, by themselves and as parts.
func TestPutKindsThatAreNone(t *testing.T) {
	for _, kind := range []int{3, 4, 255, 256, 257, 258, -1, -2, -256, 1 << 32, math.MaxInt, math.MinInt} {
		x := api.Item{Kind: kind}
		wantPut(t, "alone", x, api.ErrForm)
		wantPut(t, "a part", codec.List(codec.Num(1), x), api.ErrForm)
		wantPut(t, "in 15 lists", nested(x, 15), api.ErrForm)
	}
}

// P3.1: ErrForm: items that have what their kind doesn't have; a list without elements is as good as none.
func TestPutWhatAKindDoesNotHave(t *testing.T) {
	one := []api.Item{{}}
	for name, x := range map[string]api.Item{
		"number with text":      {Kind: api.KNum, N: 1, S: "x"},
		"number with list":      {Kind: api.KNum, N: 1, L: one},
		"zero number with text": {Kind: api.KNum, S: "\x00"},
		"text with number":      {Kind: api.KText, S: "x", N: 1},
		"text with list":        {Kind: api.KText, S: "x", L: one},
		"no text with number":   {Kind: api.KText, N: 1},
		"list with number":      {Kind: api.KList, L: one, N: 1},
		"list with text":        {Kind: api.KList, L: one, S: "x"},
		"empty list with text":  {Kind: api.KList, S: "x"},
	} {
		wantPut(t, name, x, api.ErrForm)
		wantPut(t, name+", as a part", codec.List(codec.List(), x), api.ErrForm)
		wantPut(t, name+", in 15 lists", nested(x, 15), api.ErrForm)
	}
	none := []api.Item{}
	wantPut(t, "number with an empty list", api.Item{Kind: api.KNum, N: 9, L: none}, api.OK)
	wantPut(t, "text with an empty list", api.Item{Kind: api.KText, S: "s", L: none}, api.OK)
	if b := mustPut(t, api.Item{Kind: api.KList, L: none}); !bytes.Equal(b, []byte{2, 0}) {
		t.Errorf("an empty list is put as % x", b)
	}
}

// P3.1: ErrLimit: an item is right in 15 lists and no more.
func TestPutNest(t *testing.T) {
	for _, x := range []api.Item{codec.Num(0), codec.Text(""), codec.List(), codec.Text("abc")} {
		for lists := range 16 {
			wantPut(t, "nested", nested(x, lists), api.OK)
		}
		for _, lists := range []int{16, 17, 18, 100, 100000} {
			wantPut(t, "nested too deep", nested(x, lists), api.ErrLimit)
			wantPut(t, "a part nested too deep", codec.List(codec.Num(1), nested(x, lists-1), codec.Num(2)), api.ErrLimit)
		}
	}
	endless := []api.Item{{Kind: api.KList}, {Kind: api.KList}}
	endless[0].L, endless[1].L = endless, endless
	wantPut(t, "a list that holds itself", endless[0], api.ErrLimit)
}

// P3.1: which error comes first where there are several.
func TestPutFirstError(t *testing.T) {
	wrong := api.Item{Kind: 3}
	deep := nested(codec.Num(0), 16)
	long := codec.Text(strings.Repeat("x", api.MaxBytes))
	for _, c := range []struct {
		name string
		x    api.Item
		want api.Errno
	}{
		{"wrong where it is too deep", nested(wrong, 16), api.ErrForm},
		{"wrong by what it has where it is too deep", nested(api.Item{Kind: api.KList, S: "x"}, 16), api.ErrForm},
		{"wrong below what is too deep", nested(wrong, 17), api.ErrLimit},
		{"wrong far below what is too deep", nested(wrong, 40), api.ErrLimit},
		{"deep, then wrong", codec.List(deep, wrong), api.ErrLimit},
		{"wrong, then deep", codec.List(wrong, deep), api.ErrForm},
		{"a wrong list with deep parts", api.Item{Kind: api.KList, N: 1, L: []api.Item{deep}}, api.ErrForm},
		{"a kind that is none with deep parts", api.Item{Kind: 5, L: []api.Item{deep}}, api.ErrForm},
		{"long, then wrong", codec.List(long, wrong), api.ErrForm},
		{"wrong, then long", codec.List(wrong, long), api.ErrForm},
		{"long, then wrong deep below", codec.List(long, nested(wrong, 14)), api.ErrForm},
		{"long, then deep", codec.List(long, deep), api.ErrLimit},
		{"deep, then long, then wrong", codec.List(deep, long, wrong), api.ErrLimit},
		{"many too many, then wrong", codec.List(append(make([]api.Item, api.MaxBytes), wrong)...), api.ErrForm},
		{"a text that is too long and has a number", api.Item{Kind: api.KText, N: 1, S: long.S}, api.ErrForm},
		{"wrong behind a right part", codec.List(codec.List(codec.Num(1)), wrong), api.ErrForm},
	} {
		wantPut(t, c.name, c.x, c.want)
	}
}

// P3.1: ErrLimit: forms of just MaxBytes bytes are put, longer ones aren't.
func TestPutLimit(t *testing.T) {
	full := strings.Repeat("t", api.MaxBytes)
	rest := func(ahead int) string { return full[:api.MaxBytes-ahead] }
	edge := []struct {
		name       string
		just, more api.Item
	}{
		{"a text", codec.Text(rest(5)), codec.Text(rest(4))},
		{"a text in a list", codec.List(codec.Text(rest(7))), codec.List(codec.Text(rest(6)))},
		{"numbers", codec.List(append(make([]api.Item, api.MaxBytes/2-4), codec.Num(248))...), codec.List(append(make([]api.Item, api.MaxBytes/2-4), codec.Num(256))...)},
		{"many and a text", codec.List(append(make([]api.Item, 1000), codec.Text(rest(2000+4+5)))...), codec.List(append(make([]api.Item, 1000), codec.Text(rest(2000+4+4)))...)},
		{"two texts", codec.List(codec.Text(full[:api.MaxBytes/2-6]), codec.Text(full[:api.MaxBytes/2-6])), codec.List(codec.Text(full[:api.MaxBytes/2-6]), codec.Text(full[:api.MaxBytes/2-5]))},
		{"a text deep below", nested(codec.Text(rest(35)), 15), nested(codec.Text(rest(34)), 15)},
	}
	for _, c := range edge {
		if b, e := codec.Put(c.just); e != api.OK || len(b) != api.MaxBytes {
			t.Errorf("%s: %d bytes, %v", c.name, len(b), e)
		} else if y, e, at := codec.Get(b); e != api.OK || at != 0 || !alike(y, c.just) {
			t.Errorf("%s: not read as it was put: %v at %d", c.name, e, at)
		}
		wantPut(t, c.name+", one more", c.more, api.ErrLimit)
	}
	wantPut(t, "a text much too long", codec.Text(strings.Repeat(full, 4)), api.ErrLimit)
	wantPut(t, "too many texts", codec.List(codec.Text(full[:1<<19]), codec.Text(full[:1<<19]), codec.Text("")), api.ErrLimit)
	wantPut(t, "too many items", codec.List(make([]api.Item, api.MaxBytes)...), api.ErrLimit)
	wantPut(t, "too many lists", codec.List(codec.List(make([]api.Item, 1<<18)...), codec.List(make([]api.Item, 1<<18)...)), api.ErrLimit)
}

// P3.1: Same, of right items and of others.
func TestSame(t *testing.T) {
	wrong := api.Item{Kind: 8, N: 1, S: "s", L: []api.Item{codec.Num(1)}}
	items := []api.Item{
		codec.Num(0), codec.Num(1), codec.Num(math.MaxUint64), codec.Text(""), codec.Text("a"), codec.Text("b"), codec.Text("ab"), codec.Text("\xff"), codec.Text("\xfe"),
		codec.List(), codec.List(codec.Num(0)), codec.List(codec.Num(1)), codec.List(codec.Num(0), codec.Num(0)), codec.List(codec.Text("")), codec.List(codec.List()),
		codec.List(codec.List(), codec.Num(0)), codec.List(codec.Num(0), codec.List()), codec.List(codec.List(codec.Num(0))), codec.List(codec.List(codec.Num(1)), codec.Num(2)), codec.List(codec.List(codec.Num(2)), codec.Num(1)),
		codec.List(codec.List(codec.Num(1)), codec.List(codec.Num(2))), codec.List(codec.List(codec.Num(1)), codec.List(codec.Num(3))), codec.List(codec.List(codec.Num(3)), codec.List(codec.Num(2))),
		{Kind: 3}, {Kind: -1}, {Kind: api.KNum, S: "x"}, {Kind: api.KNum, S: "y"}, {Kind: api.KText, N: 1}, {Kind: api.KList, N: 1}, {Kind: api.KNum, L: []api.Item{{}}}, {Kind: api.KText, L: []api.Item{{}}},
		wrong, codec.List(wrong), nested(codec.Num(1), 16), nested(codec.Num(1), 17), nested(codec.Num(2), 17), nested(codec.Num(1), 1000), nested(codec.Num(2), 1000),
	}
	for i, a := range items {
		for j, b := range items {
			if codec.Same(a, twin(b)) != (i == j) {
				t.Errorf("Same of item %d and item %d: %v", i, j, i != j)
			}
		}
	}
	for _, kind := range []int{api.KNum, api.KText, api.KList, 3} {
		if !codec.Same(api.Item{Kind: kind}, api.Item{Kind: kind, L: []api.Item{}}) {
			t.Errorf("kind %d: no list and one without elements aren't the same", kind)
		}
	}
	if !codec.Same(nested(codec.Num(1), 1000000), nested(codec.Num(1), 1000000)) || codec.Same(nested(codec.Num(1), 1000000), nested(codec.Num(2), 1000000)) {
		t.Error("items in a million lists")
	}
}

// P3.2: items are read, and no place is told where there is no error.
func TestGetForms(t *testing.T) {
	for _, f := range forms() {
		if x, e, at := codec.Get(f.b); e != api.OK || at != 0 || !alike(x, f.x) {
			t.Errorf("Get(% x): %v, %v at %d", f.b, x, e, at)
		}
	}
}

// P3.2: each error, at its place.
func TestGetErrors(t *testing.T) {
	most := []byte{0xff, 255, 255, 255, 255, 255, 255, 255, 255}
	for _, c := range []struct {
		b    []byte
		want api.Errno
		at   int
	}{
		{nil, api.ErrShort, 0},
		{[]byte{}, api.ErrShort, 0},
		{[]byte{3}, api.ErrForm, 0},
		{[]byte{255, 0}, api.ErrForm, 0},
		{[]byte{3, 0xf8, 0}, api.ErrForm, 0},
		{[]byte{2, 1, 3, 0}, api.ErrForm, 2},
		{[]byte{2, 2, 0, 1, 9, 9}, api.ErrForm, 4},
		{[]byte{0}, api.ErrShort, 1},
		{[]byte{1}, api.ErrShort, 1},
		{[]byte{2}, api.ErrShort, 1},
		{[]byte{1, 3, 'a'}, api.ErrShort, 2},
		{[]byte{1, 1}, api.ErrShort, 2},
		{join([]byte{1}, most, []byte("abc")), api.ErrShort, 10},
		{[]byte{1, 0xff, 128, 0, 0, 0, 0, 0, 0, 0, 'a'}, api.ErrShort, 10},
		{[]byte{2, 1}, api.ErrShort, 2},
		{[]byte{2, 9}, api.ErrShort, 2},
		{[]byte{2, 3, 0, 1}, api.ErrShort, 2},
		{[]byte{2, 3, 9, 9}, api.ErrShort, 2},
		{[]byte{2, 2, 0, 1}, api.ErrShort, 4},
		{[]byte{2, 4, 0, 1, 0, 1}, api.ErrShort, 6},
		{[]byte{2, 2, 2, 3, 0, 1, 0}, api.ErrShort, 7},
		{[]byte{2, 2, 2, 4, 0, 1, 0}, api.ErrShort, 4},
		{join([]byte{2}, most, []byte{0, 1}), api.ErrShort, 10},
		{[]byte{2, 0xff, 128, 0, 0, 0, 0, 0, 0, 0, 0}, api.ErrShort, 10},
		{[]byte{2, 0xf9, 1, 0, 0, 1}, api.ErrShort, 4},
		{[]byte{0, 1, 0}, api.ErrLong, 2},
		{[]byte{1, 0, 0}, api.ErrLong, 2},
		{[]byte{2, 0, 9}, api.ErrLong, 2},
		{[]byte{2, 1, 0, 1, 0, 1}, api.ErrLong, 4},
		{[]byte{2, 2, 2, 0, 1, 1, 'a', 'b'}, api.ErrLong, 7},
	} {
		wantGet(t, c.b, c.want, c.at)
	}
}

// P3.2: the document's example, cut off at every place.
func TestGetExampleCutOff(t *testing.T) {
	b := []byte{2, 2, 0, 5, 1, 1, 'a'}
	for n, at := range []int{0, 1, 2, 2, 4, 5, 6} {
		wantGet(t, b[:n], api.ErrShort, at)
	}
	wantGet(t, b, api.OK, 0)
}

// P3.2: forms cut off at every place are short; with one more byte behind, long.
func TestGetCutOffAndLonger(t *testing.T) {
	for _, f := range forms() {
		for n := range f.b {
			if _, e, at := codec.Get(f.b[:n]); e != api.ErrShort || at > n {
				t.Errorf("Get of %d bytes of % x: %v at %d", n, f.b, e, at)
			}
			_, e, at := plainGet(f.b[:n])
			wantGet(t, f.b[:n], e, at)
		}
		for _, more := range []byte{0, 1, 2, 3, 255} {
			wantGet(t, append(bytes.Clone(f.b), more), api.ErrLong, len(f.b))
		}
	}
}

// P3.2: layer 1's errors, at the first byte of the number, at each place where one stands.
func TestGetNumbersInAWrongForm(t *testing.T) {
	for _, ahead := range [][]byte{{}, {2, 1}, {2, 2, 0, 5}, {2, 3, 1, 1, 'a', 2, 0}, heads(15)} {
		for kind := range byte(3) {
			start := join(ahead, []byte{kind})
			for _, wrong := range [][]byte{{0xf8, 0}, {0xf8, 247}, {0xf9, 0, 248}, {0xf9, 0, 255}, {0xfa, 0, 1, 0}, {0xff, 0, 255, 255, 255, 255, 255, 255, 255}, {0xff, 0, 0, 0, 0, 0, 0, 0, 0}} {
				wantGet(t, join(start, wrong), api.ErrForm, len(start))
				wantGet(t, join(start, wrong, make([]byte, 300)), api.ErrForm, len(start))
				for n := range wrong {
					wantGet(t, join(start, wrong[:n]), api.ErrShort, len(start))
				}
			}
		}
	}
}

// P3.2: ErrLimit of an item in MaxNest lists, at its first byte, whatever stands there.
func TestGetNest(t *testing.T) {
	for lists := range 16 {
		wantGet(t, join(heads(lists), []byte{2, 0}), api.OK, 0)
		wantGet(t, join(heads(lists), []byte{0, 7}), api.OK, 0)
		wantGet(t, join(heads(lists), []byte{3, 0}), api.ErrForm, 2*lists)
	}
	for _, behind := range [][]byte{{0, 7}, {1, 0}, {2, 0}, {2, 9}, {3}, {255, 255}, {0, 0xf8, 0}} {
		wantGet(t, join(heads(16), behind), api.ErrLimit, 32)
		wantGet(t, join(heads(17), behind), api.ErrLimit, 32)
		wantGet(t, join(heads(1000), behind), api.ErrLimit, 32)
	}
	wantGet(t, heads(16), api.ErrShort, 32)
	wantGet(t, heads(api.MaxBytes/2), api.ErrLimit, 32)
	wantGet(t, join([]byte{2, 2, 0, 1}, heads(15), []byte{0, 1}), api.ErrLimit, 34)
	wantGet(t, join([]byte{2, 2, 3, 1}, heads(15), []byte{0, 1}), api.ErrForm, 2)
}

// P3.2: ErrLimit at 0 ahead of all others, of what is longer than MaxBytes.
func TestGetLimit(t *testing.T) {
	text := join([]byte{1, 0xfa, 0x0f, 0xff, 0xfb}, make([]byte, api.MaxBytes-5))
	wantGet(t, text, api.OK, 0)
	more := join([]byte{1, 0xfa, 0x0f, 0xff, 0xfc}, make([]byte, api.MaxBytes-4))
	wantGet(t, more, api.ErrLimit, 0)
	wantGet(t, more[:api.MaxBytes], api.ErrShort, 5)
	for _, first := range []byte{0, 1, 2, 3, 255} {
		b := make([]byte, api.MaxBytes+1)
		b[0] = first
		wantGet(t, b, api.ErrLimit, 0)
		wantGet(t, append(b, b...), api.ErrLimit, 0)
	}
	long := make([]byte, api.MaxBytes)
	wantGet(t, long, api.ErrLong, 2)
	long[0], long[1] = 2, 3
	wantGet(t, long, api.ErrLong, 8)
}

// P3.2: lists within lists that tell as many items as there are bytes left don't make that many.
func TestGetListsThatTellMuch(t *testing.T) {
	b := bytes.Repeat([]byte{2, 0xfa, 0x0f, 0xff, 0x00}, 16)
	b = append(b, make([]byte, api.MaxBytes-len(b))...)
	var before, behind runtime.MemStats
	runtime.ReadMemStats(&before)
	_, e, at := codec.Get(b)
	runtime.ReadMemStats(&behind)
	if e != api.ErrLimit || at != 80 {
		t.Errorf("%v at %d", e, at)
	}
	if made := behind.TotalAlloc - before.TotalAlloc; made > api.MaxBytes {
		t.Errorf("%d bytes of memory for an error in 80 bytes", made)
	}
}

// plainGet is the document's P3.2 once more, by errors that are handed up.
func plainGet(b []byte) (api.Item, api.Errno, int) {
	if len(b) > api.MaxBytes {
		return api.Item{}, api.ErrLimit, 0
	}
	x, e, at := plainItem(b, 0, 0)
	if e == api.OK && at < len(b) {
		e = api.ErrLong
	}
	if e != api.OK {
		return api.Item{}, e, at
	}
	return x, api.OK, 0
}

// plainItem answers the item at that place, and the place behind it.
func plainItem(b []byte, at, nest int) (x api.Item, e api.Errno, behind int) {
	switch {
	case at == len(b):
		return x, api.ErrShort, at
	case nest == api.MaxNest:
		return x, api.ErrLimit, at
	case b[at] > 2:
		return x, api.ErrForm, at
	}
	v, n, e := num.Take(b[at+1:])
	if e != api.OK {
		return x, e, at + 1
	}
	x.Kind, behind = int(b[at]), at+1+n
	switch {
	case x.Kind == api.KNum:
		x.N = v
		return x, api.OK, behind
	case v > uint64(len(b)-behind):
		return x, api.ErrShort, behind
	case x.Kind == api.KText:
		x.S = string(b[behind : behind+int(v)])
		return x, api.OK, behind + int(v)
	}
	for range v {
		var y api.Item
		if y, e, behind = plainItem(b, behind, nest+1); e != api.OK {
			return x, e, behind
		}
		x.L = append(x.L, y)
	}
	return x, api.OK, behind
}

// holdsOf tells whether P3.2 and P3.3 hold of these bytes.
func holdsOf(t *testing.T, b []byte) {
	t.Helper()
	was := bytes.Clone(b)
	x, e, at := codec.Get(b)
	y, wantE, wantAt := plainGet(b)
	if e != wantE || at != wantAt || !alike(x, y) {
		t.Fatalf("Get(% x): %v at %d, want %v at %d", b, e, at, wantE, wantAt)
	}
	if e == api.OK {
		if again, e := codec.Put(x); e != api.OK || !bytes.Equal(again, b) {
			t.Fatalf("% x is read, but put as % x, %v", b, again, e)
		}
	}
	if !bytes.Equal(b, was) {
		t.Fatalf("Get changed % x", was)
	}
}

// P3.2, P3.3: all short rows of the bytes that mean something.
func TestGetAllShortRows(t *testing.T) {
	letters := []byte{0, 1, 2, 3, 247, 248, 249, 255}
	var rows func(b []byte, more int)
	rows = func(b []byte, more int) {
		holdsOf(t, b)
		if more > 0 {
			for _, c := range letters {
				rows(append(bytes.Clone(b), c), more-1)
			}
		}
	}
	rows(nil, 6)
}

// P3.2, P3.3: forms with one byte turned into each other one.
func TestGetOneByteChanged(t *testing.T) {
	for _, f := range forms() {
		for i := range min(len(f.b), 48) {
			for c := range 256 {
				b := bytes.Clone(f.b)
				b[i] = byte(c)
				holdsOf(t, b)
			}
		}
	}
}

// someItem is a right item that hangs on r alone.
func someItem(r *rand.Rand, nest int) api.Item {
	switch kind := r.Intn(4); {
	case kind == 0:
		return codec.Num(r.Uint64() >> r.Intn(64))
	case kind == 1 || nest == api.MaxNest-1:
		s := make([]byte, r.Intn(12))
		r.Read(s)
		return codec.Text(string(s))
	}
	var l []api.Item
	for range r.Intn(4) {
		l = append(l, someItem(r, nest+1))
	}
	return api.Item{Kind: api.KList, L: l}
}

// P3.3: what is put is read as it was; what is handed in stays.
func TestPutAndGet(t *testing.T) {
	r := rand.New(rand.NewSource(3))
	for range 20000 {
		x := someItem(r, 0)
		was := twin(x)
		b := mustPut(t, x)
		if !alike(x, was) {
			t.Fatal("Put changed its item")
		}
		if y, e, at := codec.Get(b); e != api.OK || at != 0 || !alike(y, x) || !codec.Same(x, y) {
			t.Fatalf("% x: %v, %v at %d", b, y, e, at)
		}
		holdsOf(t, b)
		b[r.Intn(len(b))] = byte(r.Intn(256))
		holdsOf(t, b)
	}
}

// P3.3, R4: answers are new memory, and what lies behind a list's length is left alone.
func TestMemory(t *testing.T) {
	room := []byte{2, 2, 0, 5, 1, 1, 'a', 9, 9, 9}
	x, e, _ := codec.Get(room[:7])
	if e != api.OK || !bytes.Equal(room[7:], []byte{9, 9, 9}) {
		t.Error("Get touched what lies behind its bytes")
	}
	for i := range room {
		room[i] = 0xee
	}
	if !alike(x, codec.List(codec.Num(5), codec.Text("a"))) {
		t.Error("an item changed with the bytes that it was read from")
	}
	b := mustPut(t, x)
	copy(b, "xxxxxxx")
	if !alike(x, codec.List(codec.Num(5), codec.Text("a"))) || !bytes.Equal(mustPut(t, x), []byte{2, 2, 0, 5, 1, 1, 'a'}) {
		t.Error("writing over a form changed something")
	}
	_, _, _ = codec.Get(append(b, 0))
	x.L[0] = codec.Num(6)
	if y, _, _ := codec.Get([]byte{2, 2, 0, 5, 1, 1, 'a'}); !alike(y, codec.List(codec.Num(5), codec.Text("a"))) {
		t.Error("an answer hangs on an earlier one")
	}
}

// P3.3, R4: List keeps nothing of what it is handed, down to its innermost lists.
func TestListMemory(t *testing.T) {
	row := []api.Item{codec.Num(1), {Kind: api.KList, L: []api.Item{{Kind: api.KList, L: []api.Item{codec.Num(2)}}}}, codec.Num(3)}
	was := twin(api.Item{Kind: api.KList, L: row})
	x := codec.List(row[:2]...)
	y := codec.List(row[1], row[1])
	x.L[0] = codec.Text("over")
	x.L[1].L[0].L[0] = codec.Text("over")
	_ = append(x.L, codec.Text("over"))
	y.L[0].L[0].L[0] = codec.Text("over")
	if !alike(api.Item{Kind: api.KList, L: row}, was) {
		t.Error("writing over an answer of List changed what was handed in")
	}
	if !alike(y.L[1], was.L[1]) {
		t.Error("two lists of one answer share memory")
	}
	z := codec.List(row...)
	row[0] = codec.Num(9)
	row[1].L[0].L[0] = codec.Num(9)
	if !alike(z, was) {
		t.Error("an answer of List changed with what was handed in")
	}
	deep := codec.List(nested(codec.Num(1), 1000000))
	if !codec.Same(deep, nested(codec.Num(1), 1000001)) {
		t.Error("List of an item in a million lists")
	}
}

// P3.2, P3.3: any bytes.
func FuzzGet(f *testing.F) {
	for _, x := range forms() {
		f.Add(x.b)
	}
	f.Add([]byte{2, 9})
	f.Add([]byte{0, 0xf8, 7})
	f.Add(heads(17))
	f.Fuzz(func(t *testing.T, b []byte) { holdsOf(t, b) })
}

package num_test

import (
	"bytes"
	"math/rand"
	"testing"

	"stonecrop/api"
	"stonecrop/num"
)

// forms are written out by hand: the least and the greatest number of each count of bytes that follow.
var forms = []struct {
	v uint64
	b []byte
}{
	{0, []byte{0}},
	{1, []byte{1}},
	{5, []byte{5}},
	{127, []byte{0x7f}},
	{128, []byte{0x80}},
	{246, []byte{0xf6}},
	{247, []byte{0xf7}},
	{248, []byte{0xf8, 0xf8}},
	{249, []byte{0xf8, 0xf9}},
	{255, []byte{0xf8, 0xff}},
	{256, []byte{0xf9, 0x01, 0x00}},
	{300, []byte{0xf9, 0x01, 0x2c}},
	{1<<16 - 1, []byte{0xf9, 0xff, 0xff}},
	{1 << 16, []byte{0xfa, 0x01, 0x00, 0x00}},
	{0x123456, []byte{0xfa, 0x12, 0x34, 0x56}},
	{1<<24 - 1, []byte{0xfa, 0xff, 0xff, 0xff}},
	{1 << 24, []byte{0xfb, 0x01, 0x00, 0x00, 0x00}},
	{1<<32 - 1, []byte{0xfb, 0xff, 0xff, 0xff, 0xff}},
	{1 << 32, []byte{0xfc, 0x01, 0x00, 0x00, 0x00, 0x00}},
	{1<<40 - 1, []byte{0xfc, 0xff, 0xff, 0xff, 0xff, 0xff}},
	{api.MaxNumber, []byte{0xfd, 0x01, 0x00, 0x00, 0x00, 0x00, 0x00}},
	{1<<48 - 1, []byte{0xfd, 0xff, 0xff, 0xff, 0xff, 0xff, 0xff}},
	{1 << 48, []byte{0xfe, 0x01, 0x00, 0x00, 0x00, 0x00, 0x00, 0x00}},
	{1<<56 - 1, []byte{0xfe, 0xff, 0xff, 0xff, 0xff, 0xff, 0xff, 0xff}},
	{1 << 56, []byte{0xff, 0x01, 0x00, 0x00, 0x00, 0x00, 0x00, 0x00, 0x00}},
	{0x0123456789abcdef, []byte{0xff, 0x01, 0x23, 0x45, 0x67, 0x89, 0xab, 0xcd, 0xef}},
	{1 << 63, []byte{0xff, 0x80, 0x00, 0x00, 0x00, 0x00, 0x00, 0x00, 0x00}},
	{1<<64 - 1, []byte{0xff, 0xff, 0xff, 0xff, 0xff, 0xff, 0xff, 0xff, 0xff}},
}

// spread: numbers of every count of bits, some hundreds of each, by a seed that stays.
func spread() []uint64 {
	r := rand.New(rand.NewSource(1))
	var l []uint64
	for v := range uint64(70000) {
		l = append(l, v)
	}
	for width := range 65 {
		for range 300 {
			l = append(l, r.Uint64()>>(64-width))
		}
	}
	for _, f := range forms {
		l = append(l, f.v)
	}
	return l
}

func wantTake(t *testing.T, b []byte, v uint64, n int, e api.Errno) {
	t.Helper()
	if gotV, gotN, gotE := num.Take(b); gotV != v || gotN != n || gotE != e {
		t.Fatalf("Take(% x) = %d, %d, %d; want %d, %d, %d", b, gotV, gotN, gotE, v, n, e)
	}
}

// P1.1: Put and Size.
func TestPutAndSize(t *testing.T) {
	for _, f := range forms {
		if b := num.Put(nil, f.v); !bytes.Equal(b, f.b) {
			t.Errorf("Put(nil, %d) = % x; want % x", f.v, b, f.b)
		}
		if n := num.Size(f.v); n != len(f.b) {
			t.Errorf("Size(%d) = %d; want %d", f.v, n, len(f.b))
		}
	}
}

// P1.1: what is put comes behind b, whatever b is.
func TestPutBehind(t *testing.T) {
	for _, head := range [][]byte{nil, {}, {0}, {0xff}, {0xf9, 0x01}, bytes.Repeat([]byte{0xf8}, 300)} {
		for _, f := range forms {
			want := append(bytes.Clone(head), f.b...)
			if b := num.Put(head, f.v); !bytes.Equal(b, want) {
				t.Errorf("Put(% x, %d) = % x; want % x", head, f.v, b, want)
			}
		}
	}
}

// P1.1: Take, with nothing and with all sorts of bytes behind the form, which count for nothing.
func TestTake(t *testing.T) {
	for _, f := range forms {
		for _, tail := range [][]byte{nil, {0}, {0xff}, {0xf9, 0x01, 0x2c}, bytes.Repeat([]byte{0xff}, 20)} {
			wantTake(t, append(bytes.Clone(f.b), tail...), f.v, len(f.b), api.OK)
		}
	}
}

// P1.1: ErrShort, where bytes end within a form: of no bytes, and of each beginning of each form.
func TestTakeShort(t *testing.T) {
	wantTake(t, nil, 0, 0, api.ErrShort)
	wantTake(t, []byte{}, 0, 0, api.ErrShort)
	for _, f := range forms {
		for n := range len(f.b) {
			wantTake(t, f.b[:n], 0, 0, api.ErrShort)
		}
	}
}

// R4: what lies behind the length isn't read, so a form that only the memory ends is short.
func TestTakeStaysWithinLength(t *testing.T) {
	for _, f := range forms {
		for n := range len(f.b) {
			wantTake(t, bytes.Clone(f.b)[:n:len(f.b)], 0, 0, api.ErrShort)
		}
	}
}

// P1.1: ErrForm, where a shorter one is the number's form: of each count of bytes that follow the least and the greatest such number; of one byte all of them.
func TestTakeForm(t *testing.T) {
	for follow := 1; follow <= 8; follow++ {
		least := make([]byte, 1+follow)
		least[0] = byte(247 + follow)
		wantTake(t, least, 0, 0, api.ErrForm)
		greatest := bytes.Repeat([]byte{0xff}, 1+follow)
		greatest[0] = byte(247 + follow)
		greatest[1] = 0
		if follow == 1 {
			greatest[1] = 247
		}
		wantTake(t, greatest, 0, 0, api.ErrForm)
		wantTake(t, append(greatest, 7, 7, 7), 0, 0, api.ErrForm)
	}
	for v := range 248 {
		wantTake(t, []byte{0xf8, byte(v)}, 0, 0, api.ErrForm)
	}
	for v := 248; v < 256; v++ {
		wantTake(t, []byte{0xf8, byte(v)}, uint64(v), 2, api.OK)
	}
}

// P1.1, R2: bytes that end within what would be no form, too, are short.
func TestTakeShortAheadOfForm(t *testing.T) {
	for follow := 2; follow <= 8; follow++ {
		b := make([]byte, 1+follow)
		b[0] = byte(247 + follow)
		for n := 1; n <= follow; n++ {
			wantTake(t, b[:n], 0, 0, api.ErrShort)
		}
		wantTake(t, b, 0, 0, api.ErrForm)
	}
}

// P1.2: what is put is taken as it was, by itself and in a row.
func TestPutIsTaken(t *testing.T) {
	for _, v := range spread() {
		b := num.Put(nil, v)
		if len(b) != num.Size(v) {
			t.Fatalf("Put(nil, %d) has %d bytes; Size tells %d", v, len(b), num.Size(v))
		}
		wantTake(t, b, v, len(b), api.OK)
	}
	var row []byte
	for _, f := range forms {
		row = num.Put(row, f.v)
	}
	for _, f := range forms {
		wantTake(t, row, f.v, len(f.b), api.OK)
		row = row[len(f.b):]
	}
	if len(row) != 0 {
		t.Fatalf("% x is left", row)
	}
}

// P1.2: what is taken is put as it was: of all bytes up to two, of all three that a first one leads, and of longer ones by a seed that stays.
func TestTakenIsPut(t *testing.T) {
	for first := range 256 {
		takenIsPut(t, []byte{byte(first)})
		for second := range 256 {
			takenIsPut(t, []byte{byte(first), byte(second)})
			for third := 0; first >= 248 && third < 256; third++ {
				takenIsPut(t, []byte{byte(first), byte(second), byte(third)})
			}
		}
	}
	r := rand.New(rand.NewSource(2))
	for range 100000 {
		b := make([]byte, r.Intn(12))
		r.Read(b)
		if len(b) > 0 && r.Intn(2) == 0 {
			b[0] |= 0xf8
		}
		for i := 1; i < len(b) && r.Intn(2) == 0; i++ {
			b[i] = 0
		}
		takenIsPut(t, b)
	}
}

func FuzzTakenIsPut(f *testing.F) {
	for _, x := range forms {
		f.Add(x.b)
	}
	f.Add([]byte{0xf8, 0xf7})
	f.Add([]byte{0xff, 0, 0, 0, 0, 0, 0, 0, 0})
	f.Fuzz(func(t *testing.T, b []byte) { takenIsPut(t, b) })
}

// takenIsPut: b begins with a form just if Put of what it tells gives these bytes; what Take answers beside an error is zero, and b stays.
func takenIsPut(t *testing.T, b []byte) {
	t.Helper()
	was := bytes.Clone(b)
	v, n, e := num.Take(b)
	if !bytes.Equal(b, was) {
		t.Fatalf("Take changed % x to % x", was, b)
	}
	switch e {
	case api.OK:
		if n < 1 || n > len(b) || !bytes.Equal(num.Put(nil, v), b[:n]) {
			t.Fatalf("Take(% x) = %d, %d; Put is % x", b, v, n, num.Put(nil, v))
		}
	case api.ErrShort:
		if v != 0 || n != 0 || len(b) > 0 && (b[0] < 248 || len(b) > int(b[0])-247) {
			t.Fatalf("Take(% x) = %d, %d, ErrShort", b, v, n)
		}
	case api.ErrForm:
		if v != 0 || n != 0 || b[0] < 248 || b[0] == 248 && b[1] >= 248 || b[0] > 248 && b[1] != 0 {
			t.Fatalf("Take(% x) = %d, %d, ErrForm", b, v, n)
		}
	default:
		t.Fatalf("Take(% x): error %d", b, e)
	}
}

// P1.2: no form is the beginning of another one, and no two numbers have one form.
func TestFormsAreToldApart(t *testing.T) {
	var l [][]byte
	for v := range uint64(600) {
		l = append(l, num.Put(nil, v))
	}
	for _, f := range forms {
		if f.v >= 600 {
			l = append(l, num.Put(nil, f.v))
		}
	}
	for i, a := range l {
		for k, b := range l {
			if i != k && bytes.HasPrefix(b, a) {
				t.Fatalf("% x begins % x", a, b)
			}
		}
	}
}

// R4: what is handed in stays, and what is answered may be written over without changing it, or another answer.
func TestMemory(t *testing.T) {
	for _, f := range forms {
		room := bytes.Repeat([]byte{0xaa}, 40)
		head := room[:3]
		one := num.Put(head, f.v)
		two := num.Put(head, 1<<64-1)
		want := append([]byte{0xaa, 0xaa, 0xaa}, f.b...)
		if !bytes.Equal(one, want) {
			t.Fatalf("a later Put changed % x to % x", want, one)
		}
		for i := range one {
			one[i] = 0x55
		}
		if !bytes.Equal(two, num.Put(head, 1<<64-1)) || !bytes.Equal(room, bytes.Repeat([]byte{0xaa}, 40)) {
			t.Fatalf("writing over Put(.., %d) changed something else", f.v)
		}
	}
}

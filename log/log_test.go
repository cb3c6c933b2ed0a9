package log_test

import (
	"encoding/hex"
	"math/rand"
	"slices"
	"strings"
	"testing"

	"stonecrop/api"
	"stonecrop/log"
)

// P13.1: the document's example: 00 and the sum of one byte 00.
func TestExample(t *testing.T) {
	if f, e := log.Form(nil); hex.EncodeToString(f) != "00527d5351" || e != api.OK {
		t.Errorf("the form of an empty record is %x, error %d", f, e)
	}
	l, whole := log.Scan([]byte("\x00\x52\x7d\x53\x51"))
	if len(l) != 1 || len(l[0]) != 0 || whole != 5 {
		t.Errorf("the records are %q, %d", l, whole)
	}
}

// P13.1: forms written out: the number, the sum of the bytes and behind them the number's form, with the highest byte first, and the bytes.
func TestFormsWrittenOut(t *testing.T) {
	for _, row := range []struct{ p, head string }{
		{"", "00527d5351"},
		{"a", "01903449a0"},
		{"\x00", "01030af4d1"},
		{"one", "03da8547c1"},
		{"three", "0598c6be05"},
		{strings.Repeat("x", 247), "f7e726f2fb"},
		{strings.Repeat("x", 248), "f8f869e23dba"},
		{strings.Repeat("x", 255), "f8ff5f8c53af"},
		{strings.Repeat("x", 256), "f901004096b520"},
		{strings.Repeat("x", 65535), "f9ffff1715d8fb"},
		{strings.Repeat("x", 65536), "fa01000081920491"},
		{strings.Repeat("x", api.MaxBytes), "fa100000d5506674"},
	} {
		head, _ := hex.DecodeString(row.head)
		f, e := log.Form([]byte(row.p))
		if string(f) != string(head)+row.p || e != api.OK {
			t.Errorf("the form of %d bytes begins with %x, error %d; want %s", len(row.p), f[:min(len(f), 8)], e, row.head)
		}
		l, whole := log.Scan([]byte(string(head) + row.p))
		wantRecords(t, l, []string{row.p})
		if whole != len(head)+len(row.p) {
			t.Errorf("of %d bytes %d are whole", len(head)+len(row.p), whole)
		}
	}
}

// P13.1: a record of MaxBytes has a form, and one of any more bytes has none.
func TestFormLimit(t *testing.T) {
	for _, n := range []int{api.MaxBytes - 1, api.MaxBytes} {
		if f, e := log.Form(make([]byte, n)); e != api.OK || len(f) != n+8 {
			t.Errorf("Form of %d bytes: %d, error %d", n, len(f), e)
		}
	}
	for _, n := range []int{tooLong, tooLong + 1, 2 * api.MaxBytes, 1 << 25} {
		if f, e := log.Form(make([]byte, n)); e != api.ErrLimit || len(f) != 0 {
			t.Errorf("Form of %d bytes: %d, error %d", n, len(f), e)
		}
	}
}

// P13.1: forms against the second reading, of all lengths up to 600 and at all edges.
func TestForms(t *testing.T) {
	r := rand.New(rand.NewSource(13))
	l := edges()
	for n := range 600 {
		b := make([]byte, n)
		r.Read(b)
		l = append(l, string(b))
	}
	for _, p := range l {
		if f, e := log.Form([]byte(p)); string(f) != plainForm(p) || e != api.OK {
			t.Errorf("the form of %d bytes begins with %x, error %d", len(p), f[:min(len(f), 8)], e)
		}
	}
}

// wantScan holds Scan against records and how many bytes are whole.
func wantScan(t *testing.T, b string, want []string, whole int) {
	t.Helper()
	l, n := log.Scan([]byte(b))
	wantRecords(t, l, want)
	if n != whole {
		t.Errorf("%d bytes of %q are whole, want %d", n, short(b), whole)
	}
}

// P13.1: Scan of nothing, and of several records, one behind the other.
func TestScan(t *testing.T) {
	if l, whole := log.Scan(nil); len(l) != 0 || whole != 0 {
		t.Errorf("Scan of nil: %q, %d", l, whole)
	}
	wantScan(t, "", nil, 0)
	for _, want := range [][]string{
		{""}, {"", ""}, {"", "", "", ""}, {"a"}, {"a", "", "b"}, {"one", "", "three"}, {"\x00", "\x00\x00", "\xff"}, {plainForm("one"), plainForms([]string{"a", "b"})}, edges(),
	} {
		b := plainForms(want)
		wantScan(t, b, want, len(b))
	}
	many := make([]string, 20000)
	b := plainForms(many)
	wantScan(t, b, many, 5*len(many))
}

// ahead are the records in front of which bytes stand that are none.
func ahead() [][]string { return [][]string{nil, {""}, {"one", "", "three"}} }

// wantNone holds that none of the ahead's records is lost by bytes behind them, and none is won.
func wantNone(t *testing.T, torn string) {
	t.Helper()
	for _, l := range ahead() {
		b := plainForms(l)
		wantScan(t, b+torn, l, len(b))
	}
}

// P13.1: a form that is cut at each of its places is none, whatever its number takes.
func TestScanOfCutForms(t *testing.T) {
	for _, p := range []string{"", "a", "one", strings.Repeat("x", 247), strings.Repeat("y", 248), strings.Repeat("z", 255), strings.Repeat("w", 256), strings.Repeat("\x00", 300)} {
		f := plainForm(p)
		for n := range len(f) {
			wantNone(t, f[:n])
		}
		wantScan(t, f, []string{p}, len(f))
	}
	long := plainForm(strings.Repeat("x", api.MaxBytes))
	for _, n := range []int{1, 3, 4, 7, 8, 9, 1000, len(long) - 1} {
		wantNone(t, long[:n])
	}
}

// P13.1: what stands behind a form that is none counts for nothing, though it be a form.
func TestScanEndsAtTheFirstFault(t *testing.T) {
	behind := plainForms([]string{"", "more", "and more"})
	for _, torn := range []string{"\x01", "\x00\x52\x7d\x53\x50", plainForm("one")[:7], "\xff", "x"} {
		wantNone(t, torn+behind)
		wantNone(t, torn+torn+behind)
	}
}

// turned is s with one bit turned.
func turned(s string, bit int) string {
	b := []byte(s)
	b[bit/8] ^= 1 << (bit % 8)
	return string(b)
}

// P13.1: with a bit of its sum, of its bytes or of its number turned, a form is none.
func TestScanOfTurnedBits(t *testing.T) {
	for _, p := range []string{"", "a", "three", strings.Repeat("x", 40), strings.Repeat("x", 248)} {
		f := plainForm(p)
		for bit := range 8 * len(f) {
			// Other forms behind it are there for a number that has become a greater one.
			wantNone(t, turned(f, bit)+strings.Repeat(plainForm("and more"), 60))
		}
	}
}

// P13.1: the sum's bytes in another order, the sum of the parts in another order, and the sum of the bytes alone are others.
func TestScanOfOtherSums(t *testing.T) {
	p, number := "three", "\x05"
	s := plainSum(p, number)
	for _, other := range []string{
		string([]byte{s[3], s[2], s[1], s[0]}), string([]byte{s[2], s[3], s[0], s[1]}), plainSum(number, p), plainSum(p, ""), plainSum("", number), "\x00\x00\x00\x00", "\xff\xff\xff\xff",
	} {
		wantNone(t, number+other+p)
	}
	wantScan(t, number+s+p, []string{p}, 10)
}

// P13.1: a number that isn't in its shortest form begins none, though the sum be that of it.
func TestScanOfLongNumbers(t *testing.T) {
	for _, row := range []struct {
		n      int
		number string
	}{
		{0, "\xf8\x00"}, {1, "\xf8\x01"}, {5, "\xf8\x05"}, {247, "\xf8\xf7"}, {0, "\xf9\x00\x00"}, {248, "\xf9\x00\xf8"}, {255, "\xf9\x00\xff"}, {256, "\xfa\x00\x01\x00"}, {300, "\xfb\x00\x00\x01\x2c"}, {3, "\xff\x00\x00\x00\x00\x00\x00\x00\x03"}, {65536, "\xfb\x00\x01\x00\x00"},
	} {
		wantNone(t, formOf(strings.Repeat("x", row.n), row.number))
	}
	for _, n := range []int{247, 248, 255, 256, 300, 65536} {
		p := strings.Repeat("x", n)
		f := formOf(p, plainNumber(uint64(n)))
		wantScan(t, f, []string{p}, len(f))
	}
}

// P13.1: a number greater than MaxBytes begins none, though that many bytes and their sum stand behind it.
func TestScanOfGreatNumbers(t *testing.T) {
	for _, n := range []int{tooLong, tooLong + 1, 2 * api.MaxBytes, 1 << 24} {
		wantNone(t, plainForm(strings.Repeat("x", n)))
	}
	p := strings.Repeat("x", api.MaxBytes)
	wantScan(t, plainForm(p), []string{p}, api.MaxBytes+8)
}

// P13.1: a number greater than the bytes that are left begins none, at numbers of any size and though the sum be that of what is left.
func TestScanOfNumbersBeyondTheEnd(t *testing.T) {
	for _, n := range []int{0, 1, 5, 246, 247, 248, 255, 256, 65535} {
		p := strings.Repeat("x", n)
		for _, v := range []uint64{uint64(n) + 1, uint64(n) + 4, uint64(n) + 5, uint64(n) + 300, 1 << 20, 1<<20 + 1, 1 << 31, 1<<32 + uint64(n), 1<<63 - 1, 1 << 63, 1<<63 + uint64(n), ^uint64(0) - 12, ^uint64(0) - 3, ^uint64(0)} {
			wantNone(t, formOf(p, plainNumber(v)))
		}
	}
	for c := range 256 {
		wantNone(t, string([]byte{byte(c)}))
		wantNone(t, strings.Repeat(string([]byte{byte(c)}), 9))
	}
}

// P13.1: all texts of up to two bytes that may begin a form, with each length behind them, against the second reading.
func TestScanOfHeads(t *testing.T) {
	for a := range 256 {
		for b := range 256 {
			head := string([]byte{byte(a), byte(b)})
			for _, s := range []string{head, head + "\x7d\x53\x51", formOf("", head), formOf(strings.Repeat("x", b), head), plainForm("x") + head} {
				want, whole := plainScan(s)
				wantScan(t, s, want, whole)
			}
		}
	}
}

// mixed is bytes of which the most are forms, some of them torn.
func mixed(r *rand.Rand) string {
	var s string
	for range r.Intn(5) {
		p := strings.Repeat(string([]byte{byte(r.Intn(256))}), []int{0, 1, 3, 247, 248, 255, 256}[r.Intn(7)])
		f := plainForm(p)
		switch r.Intn(8) {
		case 0:
			f = f[:r.Intn(len(f))]
		case 1:
			f = turned(f, r.Intn(8*len(f)))
		case 2:
			f = formOf(p, plainNumber(uint64(len(p)+r.Intn(3))))
		}
		s += f
	}
	return s
}

// P13.1: bytes of many kinds against the second reading; what is whole is scanned, and formed, as it was.
func TestScanOfManyKinds(t *testing.T) {
	r := rand.New(rand.NewSource(131))
	lost := 0
	for range 20000 {
		s := mixed(r)
		want, whole := plainScan(s)
		wantScan(t, s, want, whole)
		wantScan(t, s[:whole], want, whole)
		if plainForms(want) != s[:whole] {
			t.Fatalf("the forms of %q aren't %q", want, s[:whole])
		}
		if whole < len(s) {
			lost++
		}
	}
	if lost < 1000 {
		t.Errorf("only %d had bytes behind their records", lost)
	}
}

// FuzzScan: P13.1, P1: any bytes against the second reading, as they are and with what makes a form of them.
func FuzzScan(f *testing.F) {
	f.Add([]byte("\x00\x52\x7d\x53\x51"), []byte("one"))
	f.Add([]byte(plainForms([]string{"a", ""})), []byte{})
	f.Add([]byte("\xff\xff\xff\xff\xff\xff\xff\xff\xff"), []byte("\xf8\xf8"))
	f.Fuzz(func(t *testing.T, b, p []byte) {
		for _, s := range []string{string(b), plainForm(string(p)) + string(b), formOf(string(p), string(b))} {
			want, whole := plainScan(s)
			l, n := log.Scan([]byte(s))
			if !slices.Equal(texts(l), want) || n != whole {
				t.Fatalf("Scan of %q: %q, %d; want %q, %d", s, l, n, want, whole)
			}
		}
	})
}

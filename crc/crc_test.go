package crc_test

import (
	"bytes"
	"math/rand"
	"testing"

	"stonecrop/crc"
)

// sums are known ones of this sum; those of 32 bytes and of 48 are the examples of RFC 3720.
var sums = []struct {
	name string
	b    []byte
	want uint32
}{
	{"the document's example", []byte("123456789"), 0xe3069283},
	{"no bytes", nil, 0x00000000},
	{"a byte 0", []byte{0}, 0x527d5351},
	{"a byte 255", []byte{0xff}, 0xff000000},
	{"a letter", []byte("a"), 0xc1d04330},
	{"three letters", []byte("abc"), 0x364b3fb7},
	{"four bytes 255", bytes.Repeat([]byte{0xff}, 4), 0xffffffff},
	{"32 bytes 0", make([]byte, 32), 0x8a9136aa},
	{"32 bytes 255", bytes.Repeat([]byte{0xff}, 32), 0x62a8ab43},
	{"32 bytes, rising", row(32), 0x46dd794e},
	{"32 bytes, falling", turnedRound(row(32)), 0x113fdb5c},
	{"a command of 48 bytes", readCommand(), 0xd9963a56},
}

func row(n int) []byte {
	b := make([]byte, n)
	for i := range b {
		b[i] = byte(i)
	}
	return b
}

func turnedRound(b []byte) []byte {
	out := make([]byte, len(b))
	for i := range b {
		out[len(b)-1-i] = b[i]
	}
	return out
}

func readCommand() []byte {
	b := make([]byte, 48)
	b[0], b[1] = 0x01, 0xc0
	b[16], b[22], b[27], b[31], b[32], b[40] = 0x14, 0x04, 0x14, 0x18, 0x28, 0x02
	return b
}

func random(r *rand.Rand, n int) []byte {
	b := make([]byte, n)
	r.Read(b)
	return b
}

// bitByBit is the sum by the document's words, a bit at a time.
func bitByBit(b []byte) uint32 {
	rest := uint32(0xffffffff)
	for i := range 8 * len(b) {
		differ := rest&1 != uint32(b[i/8]>>(i%8))&1
		rest >>= 1
		if differ {
			rest ^= 0x82f63b78
		}
	}
	return rest ^ 0xffffffff
}

func wantSum(t *testing.T, want uint32, parts ...[]byte) {
	t.Helper()
	if got := crc.Sum(parts...); got != want {
		t.Fatalf("Sum(% x) = %08x; want %08x", parts, got, want)
	}
}

// P2.1: sums that are known.
func TestSum(t *testing.T) {
	for _, s := range sums {
		if got := crc.Sum(s.b); got != s.want {
			t.Errorf("%s: %08x; want %08x", s.name, got, s.want)
		}
	}
}

// P2.1: without a byte the remainder stays all ones, and is turned: 0.
func TestSumOfNothing(t *testing.T) {
	wantSum(t, 0)
	wantSum(t, 0, nil)
	wantSum(t, 0, []byte{})
	wantSum(t, 0, nil, []byte{}, nil, make([]byte, 0, 8))
	wantSum(t, 0, [][]byte{}...)
}

// P2.1: the sum by the document's words: of all bytes up to two, and of each length up to 300 by a seed that stays.
func TestSumBitByBit(t *testing.T) {
	for first := range 256 {
		b := []byte{byte(first)}
		wantSum(t, bitByBit(b), b)
		for second := range 256 {
			b := []byte{byte(first), byte(second)}
			wantSum(t, bitByBit(b), b)
		}
	}
	r := rand.New(rand.NewSource(1))
	for n := range 301 {
		b := random(r, n)
		wantSum(t, bitByBit(b), b)
	}
	b := random(r, 1<<20+1)
	if got, want := crc.Sum(b), bitByBit(b); got != want {
		t.Fatalf("of %d bytes: %08x; want %08x", len(b), got, want)
	}
}

// P2.1: parts that are nil or empty add nothing, wherever they stand.
func TestPartsWithoutBytes(t *testing.T) {
	for _, s := range sums {
		wantSum(t, s.want, nil, s.b)
		wantSum(t, s.want, s.b, nil)
		wantSum(t, s.want, []byte{}, s.b, []byte{})
		half := len(s.b) / 2
		wantSum(t, s.want, nil, s.b[:half], []byte{}, nil, s.b[half:], nil)
	}
}

// P2.1: where bytes are cut doesn't change their sum: at one place, at two, at each, and at places by a seed that stays.
func TestPartsAreJoined(t *testing.T) {
	r := rand.New(rand.NewSource(2))
	for _, s := range sums {
		for i := range len(s.b) + 1 {
			wantSum(t, s.want, s.b[:i], s.b[i:])
			for k := i; k <= len(s.b); k++ {
				wantSum(t, s.want, s.b[:i], s.b[i:k], s.b[k:])
			}
		}
		var single [][]byte
		for i := range s.b {
			single = append(single, s.b[i:i+1])
		}
		wantSum(t, s.want, single...)
	}
	for range 300 {
		b := random(r, r.Intn(600))
		wantSum(t, bitByBit(b), cut(r, b)...)
	}
}

func cut(r *rand.Rand, b []byte) [][]byte {
	var parts [][]byte
	for len(b) > 0 {
		n := r.Intn(min(len(b), 20) + 1)
		parts = append(parts, b[:n])
		b = b[n:]
	}
	return parts
}

// P2.1: parts go one behind the other, as they are handed in.
func TestPartsAreInOrder(t *testing.T) {
	one, two, three := []byte("12"), []byte("345"), []byte("6789")
	wantSum(t, 0xe3069283, one, two, three)
	for _, parts := range [][][]byte{{one, three, two}, {two, one, three}, {two, three, one}, {three, one, two}, {three, two, one}} {
		if crc.Sum(parts...) == 0xe3069283 {
			t.Errorf("parts %q have the sum of their bytes in order", parts)
		}
		wantSum(t, bitByBit(bytes.Join(parts, nil)), parts...)
	}
}

// P2.2: each row of one to 32 bits, at each place from the first to the last.
func TestTurnedRows(t *testing.T) {
	r := rand.New(rand.NewSource(3))
	for _, b := range [][]byte{{0}, {0xff}, []byte("12"), []byte("1234"), []byte("123456789"), make([]byte, 12), bytes.Repeat([]byte{0xff}, 12), random(r, 40), random(r, 41)} {
		for long := 1; long <= 32 && long <= 8*len(b); long++ {
			for at := range 8*len(b) - long + 1 {
				wantOther(t, b, turned(b, at, long, 1<<long-1))
			}
		}
	}
}

// P2.2: the row's ends in bytes that are many, and across parts.
func TestTurnedEndsOfMany(t *testing.T) {
	b := random(rand.New(rand.NewSource(4)), 1<<14)
	for _, long := range []int{1, 2, 8, 31, 32} {
		for _, at := range []int{0, 1, 7, 8, 4 * len(b), 8*len(b) - long - 1, 8*len(b) - long} {
			wantOther(t, b, turned(b, at, long, 1<<long-1))
		}
	}
	was := crc.Sum(b[:5], b[5:])
	for at := 8; at <= 40; at++ {
		if other := turned(b, at, 32, 1<<32-1); crc.Sum(other[:5], other[5:]) == was {
			t.Fatalf("32 bits turned from %d on: the sum stays %08x", at, was)
		}
	}
}

// P2.2: and where only some bits within 32 in a row are turned.
func TestTurnedWithinRows(t *testing.T) {
	r := rand.New(rand.NewSource(5))
	b := random(r, 24)
	for range 100000 {
		which := r.Uint64()>>32 | 1
		wantOther(t, b, turned(b, r.Intn(8*len(b)-32+1), 32, which))
	}
}

// turned: b, where of the bits from at on, the lowest of each byte first, those are turned that which has.
func turned(b []byte, at, long int, which uint64) []byte {
	out := bytes.Clone(b)
	for i := range long {
		if which>>i&1 == 1 {
			out[(at+i)/8] ^= 1 << ((at + i) % 8)
		}
	}
	return out
}

func wantOther(t *testing.T, b, other []byte) {
	t.Helper()
	if sum := crc.Sum(b); crc.Sum(other) == sum {
		t.Fatalf("% x and % x have one sum, %08x", b, other, sum)
	}
}

// R4: parts stay as they are, in their list too; what lies behind their length counts for nothing.
func TestMemory(t *testing.T) {
	room := []byte("123456789 and more")
	parts := [][]byte{room[:4], nil, room[4:9]}
	wantSum(t, 0xe3069283, parts...)
	if string(room) != "123456789 and more" || len(parts[0]) != 4 || parts[1] != nil || len(parts[2]) != 5 {
		t.Fatalf("Sum changed what it was handed: %q, %q", room, parts)
	}
	copy(room[9:], "something else")
	wantSum(t, 0xe3069283, room[:9])
}

// R6: the same parts have the same sum each time, whatever was summed between.
func TestSumAgain(t *testing.T) {
	for range 3 {
		for _, s := range sums {
			wantSum(t, s.want, s.b)
		}
	}
}

func FuzzSum(f *testing.F) {
	for _, s := range sums {
		f.Add(s.b, 3)
	}
	f.Fuzz(func(t *testing.T, b []byte, at int) {
		at = min(max(at, 0), len(b))
		wantSum(t, bitByBit(b), b[:at], b[at:])
	})
}

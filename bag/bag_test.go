package bag_test

import (
	"slices"
	"strings"
	"testing"

	"stonecrop/api"
	"stonecrop/bag"
)

// P15.1: the document's example.
func TestExample(t *testing.T) {
	b := made(t, 2, env(0, 1, "a"), env(1, 0, "b"))
	e, ok := b.Take(0)
	wantEnv(t, e, ok, "0 1 a")
	wantShown(t, b, "1 0 b")
}

// P15.1: New: a bag without envelopes, of a room from 0 to MaxBag; what has no room is lost, and nothing is changed.
func TestNew(t *testing.T) {
	for asked, room := range rooms() {
		b := bag.New(asked)
		wantShown(t, b)
		for k := range room {
			want(t, "Len", b.Len(), k)
			want(t, "Put", b.Put(letter(k)), true)
		}
		full := letters(0, room)
		wantShown(t, b, full...)
		for range 3 {
			want(t, "Put of one more", b.Put(letter(room)), false)
			want(t, "Put of nothing", b.Put(api.Env{}), false)
			want(t, "Twice of the first", b.Twice(0), false)
			want(t, "Twice of the last", b.Twice(room-1), false)
		}
		wantShown(t, b, full...)
		wantRoom(t, b, 0)
		if e, ok := b.Take(0); room > 0 {
			wantEnv(t, e, ok, full[0])
			wantRoom(t, b, 1)
		} else {
			wantNone(t, e, ok)
		}
	}
}

// P15.1: Put: it comes behind all, and Len is one more.
func TestPut(t *testing.T) {
	b := bag.New(5)
	for k := range 5 {
		want(t, "Put", b.Put(letter(4-k)), true)
		want(t, "Len", b.Len(), k+1)
		e, ok := b.At(k)
		wantEnv(t, e, ok, text(letter(4-k)))
	}
	wantShown(t, b, text(letter(4)), text(letter(3)), text(letter(2)), text(letter(1)), text(letter(0)))
}

// P15.1, P15.2: two bags have nothing in common.
func TestTwoBags(t *testing.T) {
	a, b := bag.New(2), bag.New(3)
	want(t, "Put", a.Put(letter(1)), true)
	wantShown(t, b)
	want(t, "Put", b.Put(letter(2)), true)
	want(t, "Twice", a.Twice(0), true)
	wantShown(t, b, letters(2, 3)...)
	want(t, "Filter", b.Filter(func(api.Env) bool { return false }), 1)
	wantShown(t, a, text(letter(1)), text(letter(1)))
	wantRoom(t, a, 0)
	wantRoom(t, b, 3)
}

// P15.1: where there is no envelope, At, Take and Twice tell so, and nothing is changed.
func TestNowhere(t *testing.T) {
	for count := range 5 {
		for _, room := range []int{count, count + 1, 4096} {
			b := lettered(t, room, count)
			for _, i := range nowhere(count) {
				if i >= 0 && i < count {
					continue
				}
				e, ok := b.At(i)
				wantNone(t, e, ok)
				e, ok = b.Take(i)
				wantNone(t, e, ok)
				want(t, "Twice", b.Twice(i), false)
				wantShown(t, b, letters(0, count)...)
			}
			wantRoom(t, b, room-count)
		}
	}
}

// P15.1: the same of a bag that had envelopes, and of a full one.
func TestNowhereAnyMore(t *testing.T) {
	b := lettered(t, 3, 3)
	for count := 3; count > 0; count-- {
		e, ok := b.Take(count - 1)
		wantEnv(t, e, ok, text(letter(count-1)))
		e, ok = b.At(count - 1)
		wantNone(t, e, ok)
		e, ok = b.Take(count - 1)
		wantNone(t, e, ok)
		want(t, "Twice", b.Twice(count-1), false)
		wantShown(t, b, letters(0, count-1)...)
	}
	b = lettered(t, 4096, 4096)
	for _, i := range nowhere(4096) {
		e, ok := b.At(i)
		wantNone(t, e, ok)
		e, ok = b.Take(i)
		wantNone(t, e, ok)
		want(t, "Twice", b.Twice(i), false)
	}
	wantShown(t, b, letters(0, 4096)...)
}

// P15.1: At of each index, in any order, as often as one likes; nothing is changed.
func TestAt(t *testing.T) {
	for _, count := range []int{1, 2, 3, 10, 4095} {
		b := lettered(t, count+1, count)
		for k := range 3 * count {
			i := (k*7 + 3) % count
			e, ok := b.At(i)
			wantEnv(t, e, ok, text(letter(i)))
			want(t, "Len", b.Len(), count)
		}
		wantShown(t, b, letters(0, count)...)
		wantRoom(t, b, 1)
	}
}

// P15.1: Take of each index: it is out, the others keep their order, and there is room for one more.
func TestTake(t *testing.T) {
	for count := 1; count < 8; count++ {
		for i := range count {
			for more := range 3 {
				b := lettered(t, count+more, count)
				e, ok := b.Take(i)
				wantEnv(t, e, ok, text(letter(i)))
				want(t, "Len", b.Len(), count-1)
				wantShown(t, b, slices.Concat(letters(0, i), letters(i+1, count))...)
				wantRoom(t, b, more+1)
			}
		}
	}
}

// P15.1: Take until there is none: of the first, of the last, of those in the middle.
func TestTakeAll(t *testing.T) {
	for name, which := range map[string]func(left int) int{
		"first":  func(int) int { return 0 },
		"second": func(left int) int { return min(1, left-1) },
		"middle": func(left int) int { return left / 2 },
		"last":   func(left int) int { return left - 1 },
	} {
		for _, count := range []int{1, 2, 9, 200} {
			b := lettered(t, count, count)
			l := letters(0, count)
			for left := count; left > 0; left-- {
				i := which(left)
				e, ok := b.Take(i)
				wantEnv(t, e, ok, l[i])
				l = slices.Delete(l, i, i+1)
				wantShown(t, b, l...)
			}
			e, ok := b.Take(0)
			wantNone(t, e, ok)
			if b.Len() != 0 {
				t.Errorf("Take of the %s: %d are left", name, b.Len())
			}
			wantRoom(t, b, count)
		}
	}
}

// P15.1: Twice of each index, with room: it comes behind all, once more, and the first stays where it is.
func TestTwice(t *testing.T) {
	for count := 1; count < 6; count++ {
		for i := range count {
			b := lettered(t, count+2, count)
			want(t, "Twice", b.Twice(i), true)
			want(t, "Len", b.Len(), count+1)
			wantShown(t, b, append(letters(0, count), text(letter(i)))...)
			want(t, "Twice of the one that came", b.Twice(count), true)
			wantShown(t, b, append(letters(0, count), text(letter(i)), text(letter(i)))...)
			wantRoom(t, b, 0)
		}
	}
}

// P15.1: Twice of each index without room: false, and nothing is changed.
func TestTwiceWithoutRoom(t *testing.T) {
	for _, count := range []int{1, 2, 5, 4096} {
		b := lettered(t, count, count)
		for i := range count {
			want(t, "Twice", b.Twice(i), false)
			want(t, "Len", b.Len(), count)
		}
		wantShown(t, b, letters(0, count)...)
		wantRoom(t, b, 0)
	}
	b := lettered(t, most, 4095)
	want(t, "Twice", b.Twice(4094), true)
	want(t, "Twice", b.Twice(4094), false)
	wantShown(t, b, append(letters(0, 4095), text(letter(4094)))...)
}

// P15.1: of envelopes that are alike, by Twice or by Put, one that is taken leaves the others.
func TestAlike(t *testing.T) {
	same := text(letter(1))
	for i := range 4 {
		b := made(t, 5, letter(1), letter(1), letter(2))
		want(t, "Twice", b.Twice(0), true)
		e, ok := b.Take(i)
		l := []string{same, same, text(letter(2)), same}
		wantEnv(t, e, ok, l[i])
		wantShown(t, b, slices.Delete(l, i, i+1)...)
	}
	for i := range 3 {
		b := made(t, 3, api.Env{}, api.Env{}, api.Env{B: []byte{}})
		e, ok := b.Take(i)
		wantEnv(t, e, ok, "0 0 ")
		wantShown(t, b, "0 0 ", "0 0 ")
		wantRoom(t, b, 1)
	}
}

// edges are envelopes of any From and To, with bytes of any kind and any number.
func edges() []api.Env {
	l := []api.Env{{}, {From: 1, To: 2}, {From: 3, To: 4, B: []byte{}}, env(5, 6, strings.Repeat("long ", 1<<18)), env(7, 8, "\xff\xfe\x00\u03b1")}
	for _, from := range []int{least, least + 1, -1, 0, 1, 6, 7, 1 << 40, most - 1, most} {
		for _, to := range []int{least, -1, 0, 6, 7, 1 << 32, most} {
			l = append(l, env(from, to, "x"))
		}
	}
	for c := range 256 {
		l = append(l, env(0, 1, string([]byte{byte(c)})))
	}
	return l
}

// P15.1: any envelope is taken, and answered by At and Take as it was handed in; by Twice, too, and Filter asks of it so.
func TestAnyEnvelope(t *testing.T) {
	var all []string
	whole := bag.New(4096)
	for _, e := range edges() {
		b := made(t, 2, e)
		want(t, "Twice", b.Twice(0), true)
		for i := range 2 {
			got, ok := b.At(i)
			wantEnv(t, got, ok, text(e))
		}
		asked := 0
		want(t, "Filter", b.Filter(func(got api.Env) bool {
			asked++
			wantEnv(t, got, true, text(e))
			return asked == 1
		}), 1)
		want(t, "how often Filter asks", asked, 2)
		got, ok := b.Take(0)
		wantEnv(t, got, ok, text(e))
		want(t, "Put", whole.Put(e), true)
		all = append(all, text(e))
	}
	wantShown(t, whole, all...)
	for _, s := range all {
		e, ok := whole.Take(0)
		wantEnv(t, e, ok, s)
	}
	want(t, "Len", whole.Len(), 0)
}

package bag_test

import (
	"fmt"
	"runtime"
	"slices"
	"strings"
	"testing"

	"stonecrop/api"
	"stonecrop/bag"
)

const behind = " behind"

// piece is an envelope whose bytes are a piece of a longer text; whole answers all of that.
func piece(from, to int, b string) api.Env {
	e := env(from, to, b+behind)
	e.B = e.B[:len(b)]
	return e
}

func whole(e api.Env) string { return string(e.B[:len(e.B)+len(behind)]) }

// over writes X over all of an envelope's bytes, and behind them as far as their memory goes.
func over(e api.Env) {
	l := e.B[:cap(e.B)]
	for at := range l {
		l[at] = 'X'
	}
}

func take(t *testing.T, b *bag.Bag, i int) api.Env {
	t.Helper()
	e, ok := b.Take(i)
	want(t, "Take", ok, true)
	return e
}

func look(t *testing.T, b *bag.Bag, i int) api.Env {
	t.Helper()
	e, ok := b.At(i)
	want(t, "At", ok, true)
	return e
}

// P15.2: Put leaves what is handed in as it was, with what lies behind it, and keeps its values alone.
func TestMemoryOfPut(t *testing.T) {
	for _, s := range []string{"", "a", "abc", strings.Repeat("long", 1000)} {
		e := piece(1, 2, s)
		b := made(t, 5, e, e)
		want(t, "Twice", b.Twice(1), true)
		want(t, "what was handed in", whole(e), s+behind)
		line := text(e)
		over(e)
		wantShown(t, b, line, line, line)
		over(look(t, b, 0))
		over(take(t, b, 0))
		want(t, "Filter", b.Filter(func(e api.Env) bool { over(e); return e.B == nil }), 2)
		want(t, "what was handed in", whole(e), strings.Repeat("X", len(s+behind)))
	}
}

// P15.2: of a Put that is refused, too.
func TestMemoryOfRefusedPut(t *testing.T) {
	e := piece(1, 2, "abc")
	for _, b := range []*bag.Bag{bag.New(0), lettered(t, 2, 2)} {
		l := shown(t, b)
		want(t, "Put", b.Put(e), false)
		want(t, "what was handed in", whole(e), "abc"+behind)
		wantShown(t, b, l...)
	}
}

// P15.2: envelopes that are pieces of one text, handed in one behind the other, are each by itself.
func TestMemoryOfPieces(t *testing.T) {
	all := []byte("abcdefgh")
	b := made(t, 3, api.Env{B: all[:3]}, api.Env{B: all[3:5]}, api.Env{B: all[2:]})
	e := look(t, b, 0)
	e.B = append(e.B, "YYYY"...)
	over(e)
	e = take(t, b, 1)
	e.B = append(e.B, "ZZZZ"...)
	over(e)
	want(t, "what was handed in", string(all), "abcdefgh")
	wantShown(t, b, "0 0 abc", "0 0 cdefgh")
	copy(all, "12345678")
	wantShown(t, b, "0 0 abc", "0 0 cdefgh")
}

// P15.2: writing over what At answered changes neither the bag nor another answer, and what happens to the bag changes no answer.
func TestMemoryOfAt(t *testing.T) {
	for what, do := range changes() {
		t.Run(what, func(t *testing.T) {
			b := made(t, 4, env(1, 2, "abc"), env(3, 4, "def"))
			first, second := look(t, b, 0), look(t, b, 0)
			do(t, b)
			want(t, "an answer", text(first), "1 2 abc")
			want(t, "another one", text(second), "1 2 abc")
			l := shown(t, b)
			over(first)
			want(t, "the other one", text(second), "1 2 abc")
			wantShown(t, b, l...)
			first.B = append(first.B, "more"...)
			over(first)
			want(t, "the other one", text(second), "1 2 abc")
			wantShown(t, b, l...)
			want(t, "Put", b.Put(second), true)
			over(second)
			wantShown(t, b, append(l, "1 2 abc")...)
		})
	}
}

// changes are what may become of a bag of two envelopes with room for four; one more has room behind each.
func changes() map[string]func(t *testing.T, b *bag.Bag) {
	return map[string]func(t *testing.T, b *bag.Bag){
		"nothing":          func(t *testing.T, b *bag.Bag) {},
		"Put":              func(t *testing.T, b *bag.Bag) { b.Put(env(5, 6, "YYYY")) },
		"At and over":      func(t *testing.T, b *bag.Bag) { over(look(t, b, 0)); over(look(t, b, 1)) },
		"Twice":            func(t *testing.T, b *bag.Bag) { b.Twice(0); over(look(t, b, 2)); over(look(t, b, 0)) },
		"Twice and Take":   func(t *testing.T, b *bag.Bag) { b.Twice(0); over(take(t, b, 2)) },
		"Twice and Take 0": func(t *testing.T, b *bag.Bag) { b.Twice(0); over(take(t, b, 0)) },
		"Take":             func(t *testing.T, b *bag.Bag) { over(take(t, b, 0)); b.Put(env(5, 6, "YYY")) },
		"Take 1":           func(t *testing.T, b *bag.Bag) { over(take(t, b, 1)); b.Put(env(5, 6, "YYY")) },
		"Filter":           func(t *testing.T, b *bag.Bag) { b.Filter(func(e api.Env) bool { over(e); return true }) },
		"Filter of all": func(t *testing.T, b *bag.Bag) {
			b.Filter(func(e api.Env) bool { over(e); return false })
			b.Put(env(5, 6, "YYY"))
		},
	}
}

// P15.2: the same of what Take answered, of one that stood alone and of one that Twice made two of: the other one stays.
func TestMemoryOfTake(t *testing.T) {
	for what, do := range changes() {
		t.Run(what, func(t *testing.T) {
			handed := piece(7, 8, "ghi")
			b := made(t, 5, handed, env(1, 2, "abc"))
			want(t, "Twice", b.Twice(0), true)
			want(t, "Twice", b.Twice(0), true)
			taken, twin := take(t, b, 0), take(t, b, 1)
			wantShown(t, b, "1 2 abc", "7 8 ghi")
			do(t, b)
			want(t, "what was taken", text(taken), "7 8 ghi")
			want(t, "its twin", text(twin), "7 8 ghi")
			l := shown(t, b)
			over(taken)
			want(t, "its twin", text(twin), "7 8 ghi")
			want(t, "what was handed in", whole(handed), "ghi"+behind)
			wantShown(t, b, l...)
			over(handed)
			want(t, "its twin", text(twin), "7 8 ghi")
			wantShown(t, b, l...)
		})
	}
}

// P15.2: of the two that Twice makes of one, whichever is answered first and written over, the other one stays.
func TestMemoryOfTwice(t *testing.T) {
	for _, order := range [][]int{{0, 1, 2}, {2, 0, 1}, {1, 2, 0}} {
		b := made(t, 3, env(1, 2, "abc"))
		want(t, "Twice", b.Twice(0), true)
		want(t, "Twice", b.Twice(1), true)
		for _, i := range order {
			e := look(t, b, i)
			over(e)
			e.B = append(e.B, "more"...)
			over(e)
			wantShown(t, b, "1 2 abc", "1 2 abc", "1 2 abc")
		}
		e := take(t, b, order[0])
		over(e)
		wantShown(t, b, "1 2 abc", "1 2 abc")
		e = take(t, b, order[1]%2)
		over(e)
		wantShown(t, b, "1 2 abc")
	}
}

// P15.2: what Filter asks of may be written over and kept: neither the bag nor another answer changes by it, nor does it by these.
func TestMemoryOfFilter(t *testing.T) {
	b := made(t, 6, env(1, 2, "abc"), env(3, 4, "def"), env(5, 6, "ghi"))
	want(t, "Twice", b.Twice(0), true)
	var asked []api.Env
	want(t, "Filter", b.Filter(func(e api.Env) bool { asked = append(asked, e); return e.From != 3 }), 1)
	want(t, "Filter", b.Filter(func(e api.Env) bool { over(e); return e.From != 5 }), 1)
	wantShown(t, b, "1 2 abc", "1 2 abc")
	over(take(t, b, 0))
	over(look(t, b, 0))
	want(t, "Put", b.Put(env(7, 8, "jkl")), true)
	want(t, "how many it asked of", len(asked), 4)
	for at, line := range []string{"1 2 abc", "3 4 def", "5 6 ghi", "1 2 abc"} {
		want(t, "what it asked of", text(asked[at]), line)
		over(asked[at])
		wantShown(t, b, "1 2 abc", "7 8 jkl")
	}
}

// R6: the same calls have the same answers, each time.
func TestSameAnswers(t *testing.T) {
	var first []string
	for round := range 50 {
		b := lettered(t, 40, 20)
		said := ""
		for k := range 10 {
			b.Twice(k)
			e, ok := b.Take(2 * k)
			said += fmt.Sprint(text(e), ok)
		}
		said += fmt.Sprint(b.Filter(func(e api.Env) bool { return e.From%3 != 0 }))
		l := append(shown(t, b), said)
		if round == 0 {
			first = l
		}
		if !slices.Equal(first, l) {
			t.Fatalf("round %d: %q, want %q", round, l, first)
		}
	}
}

// inUse is how much memory is in use once what nobody has any more is gone.
func inUse() int {
	runtime.GC()
	runtime.GC()
	var m runtime.MemStats
	runtime.ReadMemStats(&m)
	return int(m.HeapAlloc)
}

const large = 1 << 24

// P15.2, R4: what an envelope's bytes were cut from isn't kept, not even by one without bytes, nor is what lies behind them.
func TestNothingElseIsKept(t *testing.T) {
	before := inUse()
	all := make([]byte, large)
	b := made(t, 9, api.Env{B: all[:0]}, api.Env{B: all[:3]}, api.Env{B: all[7:7]}, api.Env{B: all[:2:2]}, api.Env{B: all[large:]})
	runtime.KeepAlive(all)
	all = nil
	if more := inUse() - before; more > large/2 {
		t.Errorf("what bytes were cut from is kept: %d bytes more are in use", more)
	}
	want(t, "Len", b.Len(), 5)
}

// P15.2: what is out isn't kept.
func TestNothingThatIsOutIsKept(t *testing.T) {
	for what, do := range map[string]func(b *bag.Bag){
		"Take":             func(b *bag.Bag) { b.Take(1) },
		"Take of the twin": func(b *bag.Bag) { b.Twice(1); b.Take(3); b.Take(1) },
		"Take of all":      func(b *bag.Bag) { b.Take(2); b.Take(1); b.Take(0) },
		"At":               func(b *bag.Bag) { b.At(1); b.Take(1); b.At(1) },
		"Filter":           func(b *bag.Bag) { b.Filter(func(e api.Env) bool { return e.From != 2 }) },
		"Filter of all":    func(b *bag.Bag) { b.Filter(func(e api.Env) bool { return false }) },
		"a Filter that panics": func(b *bag.Bag) {
			b.Filter(func(e api.Env) bool { return e.From != 2 && e.B[0] != 'c' })
			b.Take(1)
		},
	} {
		b := made(t, 5, env(1, 2, "a"))
		before := inUse()
		want(t, "Put", b.Put(api.Env{From: 2, B: make([]byte, large)}), true)
		want(t, "Put", b.Put(env(3, 2, "")), true)
		do(b)
		if more := inUse() - before; more > large/2 {
			t.Errorf("behind %s %d bytes more are in use", what, more)
		}
		runtime.KeepAlive(b)
	}
}

// R1: for what is refused, no memory is made; and a bag with room takes none ahead of its envelopes.
func TestNothingIsMadeOfWhatIsRefused(t *testing.T) {
	full := made(t, 1, api.Env{B: make([]byte, large)})
	e := api.Env{B: make([]byte, large)}
	var before, after runtime.MemStats
	runtime.ReadMemStats(&before)
	for range 3 {
		want(t, "Put", full.Put(e), false)
		want(t, "Put", bag.New(0).Put(e), false)
		want(t, "Twice", full.Twice(0), false)
	}
	runtime.ReadMemStats(&after)
	if made := after.TotalAlloc - before.TotalAlloc; made > 1<<16 {
		t.Errorf("%d bytes of memory for what is refused", made)
	}
	want(t, "Len", full.Len(), 1)
}

package index_test

import (
	"fmt"
	"runtime"
	"slices"
	"strings"
	"testing"

	"stonecrop/api"
	"stonecrop/index"
)

// over writes another id over all of a list, and behind it as far as its memory goes.
func over(l []api.Id) {
	l = l[:cap(l)]
	for at := range l {
		l[at] = id(-7, -7)
	}
}

// eight are ids that all meet, for one thing or another.
func eight() []held {
	return []held{
		{id(0, 1), put(1, "a"), 1}, {id(1, 1), put(2, "a"), 2}, {id(2, 1), get(3, "a"), 3}, {id(0, 2), find(4, ""), 4},
		{id(1, 2), find(1, "a"), 5}, {id(2, 2), barrier, 6}, {id(0, 3), cas(1, "ab"), 7}, {id(1, 3), remove(2, "b"), 8},
	}
}

// questions are commands that meet some of the eight, or all.
func questions() []api.Cmd {
	return []api.Cmd{put(1, "a"), put(9, "a"), get(9, "a"), find(9, ""), find(9, "a"), barrier, get(1, "q"), put(9, "q"), noop, put(2, "b")}
}

// changes are what may become of an index of the eight.
func changes() map[string]func(x *index.Index) {
	return map[string]func(x *index.Index){
		"nothing":         func(x *index.Index) {},
		"Put of another":  func(x *index.Index) { x.Put(id(-5, -5), put(1, "a"), 50) },
		"Put anew":        func(x *index.Index) { x.Put(id(0, 1), put(5, "z"), 60) },
		"Put of a no-op":  func(x *index.Index) { x.Put(id(2, 2), noop, 60) },
		"Drop":            func(x *index.Index) { x.Drop(id(1, 1)); x.Drop(id(2, 2)); x.Drop(id(0, 2)) },
		"Drop of all":     func(x *index.Index) { dropAll(x) },
		"all anew":        func(x *index.Index) { dropAll(x); x.Put(id(9, 9), barrier, 70); x.Put(id(9, 8), put(1, "a"), 71) },
		"Deps and over":   func(x *index.Index) { over(x.Deps(put(1, "a"), none)); over(x.Deps(barrier, none)) },
		"Seq":             func(x *index.Index) { x.Seq(put(1, "a"), none) },
		"many and no one": func(x *index.Index) { many(x, 500); fewer(x, 500) },
	}
}

func dropAll(x *index.Index) {
	for _, h := range eight() {
		x.Drop(h.id)
	}
}

func many(x *index.Index, count int) {
	for k := range count {
		x.Put(id(4, 100+k), put(1, "a"), k)
	}
}

func fewer(x *index.Index, count int) {
	for k := range count {
		x.Drop(id(4, 100+k))
	}
}

// P17.2: what Deps answers stays as it is, whatever becomes of the index, and the index stays when that is written over.
func TestMemoryOfDeps(t *testing.T) {
	for what, do := range changes() {
		for _, c := range questions() {
			x, twin := made(eight()...), made(eight()...)
			l := x.Deps(c, none)
			wanted := slices.Clone(l)
			wantIds(t, "Deps of the twin", twin.Deps(c, none), wanted...)
			do(x)
			do(twin)
			wantIds(t, "the answer behind "+what, l, wanted...)
			over(l)
			l = append(l, id(-8, -8))
			over(l)
			want(t, "Len", x.Len(), twin.Len())
			for _, q := range questions() {
				wantMet(t, x, q, twin.Seq(q, none), twin.Deps(q, none)...)
			}
		}
	}
}

// P17.2: two answers, of the same command or of two, are each by themselves, and so is what lies behind them.
func TestMemoryOfTwoAnswers(t *testing.T) {
	for _, c := range questions() {
		for _, d := range questions() {
			x := made(eight()...)
			wanted, next := made(eight()...).Deps(c, none), made(eight()...).Deps(d, none)
			first, second := x.Deps(c, none), x.Deps(d, none)
			first = append(first, id(-8, -8))
			over(first)
			wantIds(t, "the second", second, next...)
			second = append(second, id(-8, -8), id(-8, -9))
			over(second)
			wantIds(t, "the first one anew", x.Deps(c, none), wanted...)
		}
	}
}

// P17.2: many answers, none of which has memory of another one, nor of one behind it.
func TestMemoryOfManyAnswers(t *testing.T) {
	x := made(eight()...)
	for _, c := range questions() {
		wanted := made(eight()...).Deps(c, none)
		var answers [][]api.Id
		for range 40 {
			answers = append(answers, x.Deps(c, none))
		}
		for k, l := range answers {
			wantIds(t, fmt.Sprintf("answer %d of %s", k, short(c)), l, wanted...)
			over(append(l, id(-8, -8)))
			over(l)
		}
	}
}

// P17.2: the same with many ids, of which the answers are great.
func TestMemoryOfMany(t *testing.T) {
	x := index.New()
	many(x, 5000)
	first, second := x.Deps(put(9, "a"), none), x.Deps(get(1, "q"), id(4, 100))
	want(t, "how many", len(first), 5000)
	want(t, "how many but one", len(second), 4999)
	over(first)
	for k, i := range second {
		want(t, "an id", i, id(4, 101+k))
	}
	over(second)
	fewer(x, 4998)
	wantMet(t, x, barrier, 5000, id(4, 5098), id(4, 5099))
}

// inUse is how much memory is held by what can still be reached.
func inUse() int {
	var m runtime.MemStats
	runtime.GC()
	runtime.GC()
	runtime.ReadMemStats(&m)
	return int(m.HeapAlloc)
}

const large = 1 << 24

// P17.2, R4: a text of which a key is a part isn't kept by it, and no value is.
func TestNotKept(t *testing.T) {
	x := index.New()
	before := inUse()
	for k := range 8 {
		text := strings.Repeat("v", large) + "key"
		x.Put(id(0, k), api.Cmd{Kind: 1 + k%5, Client: 1, Seq: 1, Key: text[large:], Val: text}, k)
		x.Put(id(1, k), api.Cmd{Kind: 6 * (k % 2), Client: 1, Seq: 1, Key: text, Val: text}, k)
	}
	if kept := inUse() - before; kept > large/2 {
		t.Fatalf("%d bytes are kept", kept)
	}
	wantMet(t, x, put(9, "key"), 8,
		id(0, 0), id(0, 1), id(1, 1), id(0, 2), id(0, 3), id(1, 3), id(0, 4), id(0, 5), id(1, 5), id(0, 6), id(0, 7), id(1, 7))
}

// P17.1: of what is dropped, or put anew, neither the id nor the key stays.
func TestDroppedIsntKept(t *testing.T) {
	x := made(eight()...)
	before := inUse()
	for k := range 16 {
		for kind := range 7 {
			x.Put(id(0, 50), command(kind, 50+k, fmt.Sprint(k, kind, strings.Repeat("k", large/4))), k)
			x.Deps(find(1, strings.Repeat("k", large/4)), none)
			x.Seq(put(1000+k, strings.Repeat("k", large/4)), none)
		}
	}
	x.Drop(id(0, 50))
	if kept := inUse() - before; kept > large/8 {
		t.Fatalf("%d bytes are kept", kept)
	}
	runtime.KeepAlive(x)
}

// P17.1: nor does anything of many ids that came and went, one by one.
func TestComingAndGoing(t *testing.T) {
	x := made(eight()...)
	before := inUse()
	for k := range 200000 {
		i := id(k%7, 100+k)
		x.Put(i, command(k%8, k, keys()[k%3]), k)
		if k%3 == 0 {
			x.Put(i, command(k*5%8, -k, "q"), k)
		}
		x.Drop(i)
	}
	if kept := inUse() - before; kept > 1<<18 {
		t.Fatalf("%d bytes are kept", kept)
	}
	want(t, "Len", x.Len(), 8)
}

// R6: the same calls have the same answers, each time.
func TestSameAnswers(t *testing.T) {
	first := ""
	for round := range 50 {
		x, said := index.New(), ""
		for k := range 80 {
			x.Put(id(k*5%7, k%29), command(1+k%6, 1+k%4, keys()[k%5]), k*11%17)
			if k%9 == 8 {
				x.Drop(id(k%7, k%29))
			}
			c := command(1+k*3%6, 1+k%5, keys()[k%4])
			said += fmt.Sprint(x.Len(), x.Deps(c, id(k%7, k%29)), x.Seq(c, none))
		}
		if round == 0 {
			first = said
		}
		want(t, "what was said", said, first)
	}
}

package bag_test

import (
	"fmt"
	"math/rand"
	"testing"

	"stonecrop/api"
	"stonecrop/bag"
)

// pair is a bag and a plain one, of which all is done alike.
type pair struct {
	b    *bag.Bag
	p    *plain
	what string
}

func newPair(room int) *pair {
	return &pair{b: bag.New(room), p: newPlain(room), what: fmt.Sprintf("room %d", room)}
}

// hold is that both say the same, and is told with what was done.
func hold[T comparable](t *testing.T, pr *pair, got, want T) {
	t.Helper()
	if got != want {
		t.Fatalf("%s: %#v, want %#v", pr.what, got, want)
	}
}

func (pr *pair) put(t *testing.T, e api.Env) {
	pr.what = "Put"
	hold(t, pr, pr.b.Put(e), pr.p.put(text(e)))
	over(e)
}

func (pr *pair) at(t *testing.T, i int) {
	pr.what = fmt.Sprintf("At(%d)", i)
	e, ok := pr.b.At(i)
	s, there := pr.p.at(i)
	pr.holdEnv(t, e, ok, s, there)
}

func (pr *pair) take(t *testing.T, i int) {
	pr.what = fmt.Sprintf("Take(%d)", i)
	e, ok := pr.b.Take(i)
	s, there := pr.p.take(i)
	pr.holdEnv(t, e, ok, s, there)
}

// holdEnv holds an answer, and writes over it, as whoever asked may do.
func (pr *pair) holdEnv(t *testing.T, e api.Env, ok bool, s string, there bool) {
	t.Helper()
	hold(t, pr, ok, there)
	if there {
		hold(t, pr, text(e), s)
	} else {
		wantNone(t, e, ok)
	}
	over(e)
}

func (pr *pair) twice(t *testing.T, i int) {
	pr.what = fmt.Sprintf("Twice(%d)", i)
	hold(t, pr, pr.b.Twice(i), pr.p.twice(i))
}

// filter keeps the envelopes of whose places tell tells so.
func (pr *pair) filter(t *testing.T, tell func(place int) bool) {
	pr.what = "Filter"
	asked := 0
	got := pr.b.Filter(func(e api.Env) bool {
		s, _ := pr.p.at(asked)
		hold(t, pr, text(e), s)
		over(e)
		asked++
		return tell(asked - 1)
	})
	hold(t, pr, asked, len(pr.p.l))
	place := 0
	hold(t, pr, got, pr.p.filter(func(string) bool { place++; return tell(place - 1) }))
}

// all holds all that a bag shows.
func (pr *pair) all(t *testing.T) {
	t.Helper()
	hold(t, pr, pr.b.Len(), len(pr.p.l))
	wantShown(t, pr.b, pr.p.l...)
}

// anywhere is an index: most often one at which there may be an envelope, or one beside these.
func (pr *pair) anywhere(r *rand.Rand) int {
	n := len(pr.p.l)
	switch r.Intn(8) {
	case 0:
		l := nowhere(n)
		return l[r.Intn(len(l))]
	case 1:
		return n - 1
	case 2:
		return 0
	}
	return r.Intn(n + 1)
}

func anyEnv(r *rand.Rand) api.Env {
	numbers := []int{least, -1, 0, 1, 2, 3, 6, 7, most}
	e := api.Env{From: numbers[r.Intn(len(numbers))], To: numbers[r.Intn(len(numbers))]}
	if n := r.Intn(6); n > 0 {
		e.B = make([]byte, n-1, n+r.Intn(3))
		r.Read(e.B)
	}
	return e
}

// telling tells of places, by a rule that is drawn: all, none, some by chance, or those on one side of a place.
func telling(r *rand.Rand, n int) func(place int) bool {
	rule, side := r.Intn(6), r.Intn(n+1)
	by := r.Int63()
	return func(place int) bool {
		switch rule {
		case 0:
			return true
		case 1:
			return false
		case 2:
			return place < side
		case 3:
			return place >= side
		}
		return by>>(place%61)&1 == 1
	}
}

// step does one thing that is drawn; the more puts of ten, the fuller the bag.
func (pr *pair) step(t *testing.T, r *rand.Rand, puts int) {
	switch k := r.Intn(20); {
	case k < puts:
		pr.put(t, anyEnv(r))
	case k < 13:
		pr.at(t, pr.anywhere(r))
	case k < 16:
		pr.take(t, pr.anywhere(r))
	case k < 19:
		pr.twice(t, pr.anywhere(r))
	case r.Intn(4) == 0:
		pr.filter(t, telling(r, len(pr.p.l)))
	}
}

// P15.1, P15.2: walks of all calls in any order, with rooms of 0, of few, and of more than that.
func TestWalks(t *testing.T) {
	r := rand.New(rand.NewSource(15))
	for walk := range 1500 {
		pr := newPair([]int{0, -3, 1, 2, 3, 5, 8, 20}[walk%8])
		puts := 2 + r.Intn(9)
		for range 150 {
			pr.step(t, r, puts)
			pr.all(t)
		}
	}
}

// P15.1, P15.2: walks with a room of MaxBag: up to the full bag, about there, and down again, more than once.
func TestWideWalks(t *testing.T) {
	r := rand.New(rand.NewSource(4096))
	for _, room := range []int{4096, 4095, 4097, most} {
		pr := newPair(room)
		for range 3 {
			for len(pr.p.l) < min(room, 4096) {
				pr.put(t, anyEnv(r))
			}
			pr.all(t)
			for k := range 300 {
				if k%2 == 0 {
					pr.twice(t, pr.anywhere(r))
				} else {
					pr.take(t, pr.anywhere(r))
				}
				pr.put(t, anyEnv(r))
				pr.at(t, pr.anywhere(r))
			}
			pr.all(t)
			for range 3 {
				pr.filter(t, telling(r, len(pr.p.l)))
				pr.all(t)
			}
			for range 100 {
				pr.step(t, r, 6)
			}
			pr.all(t)
		}
	}
}

// P1, P15.1: bytes as calls: whatever they are, a bag and a plain one say the same.
func FuzzCalls(f *testing.F) {
	f.Add(4, "pppptttTTTfff")
	f.Add(2, "p\x01p\x02p\x03a\x00T\x00t\x01f\x05")
	f.Add(0, "pataTf")
	f.Add(9, "ppppppppppTTTTTT\xff\xfe\x80ffffff")
	f.Fuzz(func(t *testing.T, room int, calls string) {
		pr := newPair(room)
		for at := 0; at+1 < len(calls) && at < 400; at += 2 {
			n := int(int8(calls[at+1]))
			switch calls[at] % 5 {
			case 0:
				pr.put(t, env(n, at, calls[:at%7]))
			case 1:
				pr.at(t, n)
			case 2:
				pr.take(t, n)
			case 3:
				pr.twice(t, n)
			case 4:
				pr.filter(t, func(place int) bool { return n>>(place%8)&1 == 1 })
			}
			pr.all(t)
		}
	})
}

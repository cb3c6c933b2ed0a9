package wheel_test

import (
	"fmt"
	"math/rand"
	"slices"
	"testing"

	"stonecrop/api"
	"stonecrop/wheel"
)

// pair is a wheel and a plain one, of which all is done alike.
type pair struct {
	w    *wheel.Wheel
	p    *plain
	what string
}

func newPair() *pair { return &pair{w: wheel.New(), p: &plain{}, what: "New"} }

func (pr *pair) hold(t *testing.T, got, want any) {
	t.Helper()
	if got != want {
		t.Fatalf("%s: %v, want %v", pr.what, got, want)
	}
}

func (pr *pair) set(i api.Id, at int) {
	pr.what = fmt.Sprintf("Set(%v, %d)", i, at)
	pr.w.Set(i, at)
	pr.p.set(i, at)
}

func (pr *pair) cancel(t *testing.T, i api.Id) {
	t.Helper()
	pr.what = fmt.Sprintf("Cancel(%v)", i)
	pr.hold(t, pr.w.Cancel(i), pr.p.cancel(i))
}

// due holds an answer, and writes over it, as whoever asked may do.
func (pr *pair) due(t *testing.T, now int) {
	t.Helper()
	pr.what = fmt.Sprintf("Due(%d)", now)
	l := pr.w.Due(now)
	wantIds(t, pr.what, l, pr.p.due(now)...)
	over(l)
}

func (pr *pair) at(t *testing.T, i api.Id) {
	t.Helper()
	got, is := pr.w.At(i)
	at, ok := pr.p.at(i)
	if got != at || is != ok {
		t.Fatalf("At(%v) behind %s: %d, %v, want %d, %v", i, pr.what, got, is, at, ok)
	}
}

// all holds all that a wheel shows but Due, of these ids.
func (pr *pair) all(t *testing.T, l []api.Id) {
	t.Helper()
	pr.hold(t, pr.w.Len(), len(pr.p.l))
	got, is := pr.w.Next()
	at, ok := pr.p.next()
	if got != at || is != ok {
		t.Fatalf("Next behind %s: %d, %v, want %d, %v", pr.what, got, is, at, ok)
	}
	for _, i := range l {
		pr.at(t, i)
	}
}

// world is what a walk draws from.
type world struct {
	ids   []api.Id
	ticks []int
}

func worlds() []world {
	var few, rows, near []api.Id
	for k := range 40 {
		rows = append(rows, id(k%7, k/7))
		near = append(near, id(k%2, k/2))
	}
	few = rows[:5]
	var small, wide []int
	for k := range 60 {
		small = append(small, k%4-1)
		wide = append(wide, k*37%60)
	}
	return []world{
		{few, small}, {few, wide}, {rows, small}, {rows, wide}, {near, []int{0}},
		{inOrder(), ticks()}, {inOrder(), small}, {rows, ticks()}, {near, wide},
	}
}

func (wd world) step(t *testing.T, r *rand.Rand, pr *pair, sets int) {
	i, at := wd.ids[r.Intn(len(wd.ids))], wd.ticks[r.Intn(len(wd.ticks))]
	switch k := r.Intn(20); {
	case k < sets:
		pr.set(i, at)
	case k < 18:
		pr.cancel(t, i)
	case k < 19:
		pr.due(t, at)
	default:
		next, _ := pr.p.next()
		pr.due(t, next)
	}
}

// P16.1, P16.2: walks of all calls in any order, with few ids and many, at ticks that are often the same, or at the edges.
func TestWalks(t *testing.T) {
	r := rand.New(rand.NewSource(16))
	for walk := range 900 {
		wd, pr, sets := worlds()[walk%9], newPair(), 4+r.Intn(14)
		for range 150 {
			wd.step(t, r, pr, sets)
			pr.all(t, wd.ids)
		}
		pr.due(t, most)
		pr.all(t, wd.ids)
	}
}

// P16.1, P16.2: long walks in which time comes on, as it does for a replica: each tick some are set ahead, some are cancelled, and the due ones told.
func TestLongWalks(t *testing.T) {
	r := rand.New(rand.NewSource(4096))
	for _, begin := range []int{0, -700, 1 << 40, least, most - 3000} {
		pr := newPair()
		for k := range 1400 {
			now := begin + k
			for range r.Intn(5) {
				pr.set(id(r.Intn(3), r.Intn(150)), now+r.Intn(60))
			}
			if r.Intn(3) == 0 {
				pr.cancel(t, id(r.Intn(3), r.Intn(150)))
			}
			if r.Intn(10) > 0 {
				pr.due(t, now)
			}
			pr.all(t, []api.Id{id(0, k%150), id(1, k%150), id(2, k%150)})
		}
		pr.due(t, most)
		pr.all(t, nil)
	}
}

// P16.1: every order of seven sets at ticks of which some are the same, with each id set once more or cancelled: Due is in one order.
func TestEveryOrder(t *testing.T) {
	l := []set{{id(0, 2), 3}, {id(1, 1), 3}, {id(0, 1), 3}, {id(2, 0), 5}, {id(0, 5), 1}, {id(1, 4), 4}}
	every(l, func(order []set) {
		for k := range order {
			pr := newPair()
			for _, s := range order {
				pr.set(s.id, s.at)
			}
			if k%2 == 0 {
				pr.set(order[k].id, 9-2*order[k].at)
			} else {
				pr.cancel(t, order[k].id)
			}
			for now := 0; now < 9; now += 2 {
				pr.all(t, nil)
				pr.due(t, now)
			}
		}
	})
}

// every calls do with each order of a list.
func every(l []set, do func(order []set)) {
	var grow func(order, left []set)
	grow = func(order, left []set) {
		if len(left) == 0 {
			do(order)
		}
		for k := range left {
			grow(append(slices.Clone(order), left[k]), slices.Concat(left[:k], left[k+1:]))
		}
	}
	grow(nil, l)
}

// P1, P16.1: bytes as calls: whatever they are, a wheel and a plain one say the same.
func FuzzCalls(f *testing.F) {
	f.Add("s\x01\x05s\x02\x03d\x00\x04")
	f.Add("s\x01\x05s\x01\x03c\x01\x00c\x01\x00d\x00\x7f")
	f.Add("s\x00\x80s\x11\x80s\x22\x80d\x00\x80")
	f.Fuzz(func(t *testing.T, calls string) {
		pr := newPair()
		for at := 0; at+2 < len(calls) && at < 600; at += 3 {
			i, tick := id(int(calls[at+1]%4), int(calls[at+1]>>2%16)), int(int8(calls[at+2]))
			switch {
			case tick == -128:
				tick = least
			case tick == 127:
				tick = most
			}
			switch calls[at] % 8 {
			case 0, 2:
				pr.cancel(t, i)
			case 4:
				pr.due(t, tick)
			default:
				pr.set(i, tick)
			}
			pr.all(t, []api.Id{i})
		}
		pr.due(t, most)
	})
}

package wheel_test

import (
	"fmt"
	"math"
	"slices"
	"testing"

	"stonecrop/api"
	"stonecrop/wheel"
)

const (
	most  = math.MaxInt
	least = math.MinInt
)

func id(r, n int) api.Id { return api.Id{R: r, N: n} }

// set is one call of Set.
type set struct {
	id api.Id
	at int
}

// made is a wheel behind these calls.
func made(l ...set) *wheel.Wheel {
	w := wheel.New()
	for _, s := range l {
		w.Set(s.id, s.at)
	}
	return w
}

func want[T comparable](t *testing.T, what string, got, want T) {
	t.Helper()
	if got != want {
		t.Fatalf("%s: %#v, want %#v", what, got, want)
	}
}

// wantIds is that Due answers these, in this order.
func wantIds(t *testing.T, what string, got []api.Id, want ...api.Id) {
	t.Helper()
	if !slices.Equal(got, want) {
		t.Fatalf("%s: %.400s, want %.400s", what, fmt.Sprint(got), fmt.Sprint(want))
	}
}

// wantAt is that an id is due at that tick.
func wantAt(t *testing.T, w *wheel.Wheel, i api.Id, at int) {
	t.Helper()
	if got, ok := w.At(i); !ok || got != at {
		t.Fatalf("At(%v): %d, %v, want %d", i, got, ok, at)
	}
}

// wantNotDue is that an id isn't due, as At and a Cancel tell.
func wantNotDue(t *testing.T, w *wheel.Wheel, i api.Id) {
	t.Helper()
	if got, ok := w.At(i); ok || got != 0 {
		t.Fatalf("At(%v): %d, %v, want 0, false", i, got, ok)
	}
	count := w.Len()
	want(t, fmt.Sprintf("Cancel(%v)", i), w.Cancel(i), false)
	want(t, "Len behind it", w.Len(), count)
}

// wantNext is how many are due, and when the first one is.
func wantNext(t *testing.T, w *wheel.Wheel, count, at int) {
	t.Helper()
	want(t, "Len", w.Len(), count)
	if got, ok := w.Next(); !ok || got != at {
		t.Fatalf("Next: %d, %v, want %d", got, ok, at)
	}
}

// wantNone is that none is due. What was due ahead isn't.
func wantNone(t *testing.T, w *wheel.Wheel, ahead ...api.Id) {
	t.Helper()
	want(t, "Len", w.Len(), 0)
	if got, ok := w.Next(); ok || got != 0 {
		t.Fatalf("Next: %d, %v, want 0, false", got, ok)
	}
	for _, i := range ahead {
		wantNotDue(t, w, i)
	}
	for _, now := range ticks() {
		wantIds(t, fmt.Sprintf("Due(%d)", now), w.Due(now))
	}
}

// ticks are those at the edges, and some between; they rise.
func ticks() []int {
	return []int{least, least + 1, -1 << 40, -1 << 32, -1 << 31, -2, -1, 0, 1, 2, 1 << 31, 1<<32 - 1, 1 << 32, 1 << 40, most - 1, most}
}

// inOrder are ids of any numbers, in their order: by N, then by R.
func inOrder() []api.Id {
	return []api.Id{
		id(least, least), id(0, least), id(most, least),
		id(5, least+1),
		id(most, -1<<32),
		id(-1, -1), id(0, -1), id(1, -1),
		id(least, 0), id(-1, 0), id(0, 0), id(1, 0), id(6, 0), id(7, 0), id(most, 0),
		id(0, 1), id(2, 1), id(6, 1),
		id(1, 2),
		id(0, 3),
		id(0, 1<<31), id(1<<32, 1<<31),
		id(0, 1<<32), id(1, 1<<32),
		id(0, 1<<40), id(6, 1<<40), id(0, 1<<40+1),
		id(3, most-1),
		id(least, most), id(0, most), id(most-1, most), id(most, most),
	}
}

// orders are ways to go through so many things: forward, backward, from the middle on, and some by a stride.
func orders(count int) [][]int {
	var forward, middle []int
	for k := range count {
		forward = append(forward, k)
		middle = append(middle, (k+count/2)%count)
	}
	backward := slices.Clone(forward)
	slices.Reverse(backward)
	all := [][]int{forward, backward, middle}
	for _, stride := range []int{7, 11, 13} {
		var l []int
		for begin := range stride {
			for k := begin; k < count; k += stride {
				l = append(l, k)
			}
		}
		all = append(all, l)
	}
	return all
}

// plain is a wheel once more, by other means: a list of what is due, which is asked from end to end.
type plain struct{ l []set }

func (p *plain) find(i api.Id) int {
	for k, s := range p.l {
		if s.id.R == i.R && s.id.N == i.N {
			return k
		}
	}
	return -1
}

func (p *plain) cancel(i api.Id) bool {
	k := p.find(i)
	if k < 0 {
		return false
	}
	p.l = slices.Concat(p.l[:k], p.l[k+1:])
	return true
}

func (p *plain) set(i api.Id, at int) {
	p.cancel(i)
	p.l = append(p.l, set{i, at})
}

func (p *plain) at(i api.Id) (int, bool) {
	if k := p.find(i); k >= 0 {
		return p.l[k].at, true
	}
	return 0, false
}

func (p *plain) next() (int, bool) {
	if len(p.l) == 0 {
		return 0, false
	}
	at := p.l[0].at
	for _, s := range p.l {
		if s.at < at {
			at = s.at
		}
	}
	return at, true
}

// due asks, of what isn't above now, for the one ahead of all that are left, till none is.
func (p *plain) due(now int) []api.Id {
	var left, out []set
	for _, s := range p.l {
		if s.at > now {
			left = append(left, s)
			continue
		}
		k := 0
		for k < len(out) && ahead(out[k], s) {
			k++
		}
		out = slices.Insert(out, k, s)
	}
	p.l = left
	var l []api.Id
	for _, s := range out {
		l = append(l, s.id)
	}
	return l
}

// ahead is the order of Due: by ticks, then by the numbers of ids, then by their replicas.
func ahead(a, b set) bool {
	switch {
	case a.at != b.at:
		return a.at < b.at
	case a.id.N != b.id.N:
		return a.id.N < b.id.N
	}
	return a.id.R < b.id.R
}

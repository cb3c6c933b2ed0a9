package wheel_test

import (
	"fmt"
	"testing"

	"stonecrop/api"
	"stonecrop/wheel"
)

// P16.1: the document's example.
func TestExample(t *testing.T) {
	w := wheel.New()
	w.Set(id(0, 1), 5)
	w.Set(id(0, 2), 3)
	wantIds(t, "Due(4)", w.Due(4), id(0, 2))
	wantNotDue(t, w, id(0, 2))
	wantAt(t, w, id(0, 1), 5)
	wantNext(t, w, 1, 5)
}

// P16.1: of a new wheel no id is due, whichever, and none at whatever tick; each wheel is by itself.
func TestNew(t *testing.T) {
	wantNone(t, wheel.New(), inOrder()...)
	w, other := wheel.New(), wheel.New()
	w.Set(id(1, 2), 3)
	wantNone(t, other, id(1, 2))
	wantNext(t, w, 1, 3)
	other.Set(id(1, 2), 5)
	wantAt(t, w, id(1, 2), 3)
	wantIds(t, "Due", other.Due(most), id(1, 2))
	wantNext(t, w, 1, 3)
}

// P16.1: an id of any numbers, at any tick: it is due then, and no other one is.
func TestSetOne(t *testing.T) {
	for _, i := range inOrder() {
		for _, at := range ticks() {
			w := made(set{i, at})
			wantAt(t, w, i, at)
			wantNext(t, w, 1, at)
			for _, other := range inOrder() {
				if other != i {
					wantNotDue(t, w, other)
				}
			}
			wantNext(t, w, 1, at)
			want(t, "Cancel", w.Cancel(i), true)
			wantNone(t, w, i)
		}
	}
}

// P16.1: ids that differ in R alone, in N alone, or have the two the other way round, are each by themselves.
func TestIdsThatAreNear(t *testing.T) {
	l := []api.Id{id(0, 0), id(1, 0), id(0, 1), id(1, 1), id(-1, 0), id(0, -1), id(1<<32, 0), id(0, 1<<32), id(least, most), id(most, least)}
	w := wheel.New()
	for k, i := range l {
		w.Set(i, 10+k)
		wantNext(t, w, k+1, 10)
	}
	for k, i := range l {
		wantAt(t, w, i, 10+k)
	}
	for k, i := range l {
		wantNext(t, w, len(l)-k, 10+k)
		want(t, "Cancel", w.Cancel(i), true)
		wantNotDue(t, w, i)
		for later, j := range l[k+1:] {
			wantAt(t, w, j, 11+k+later)
		}
	}
	wantNone(t, w, l...)
}

// P16.1: an id that is set once more is due at the last tick alone, whether that is earlier, later or the same, and it is one still.
func TestSetAgain(t *testing.T) {
	for _, first := range ticks() {
		for _, second := range ticks() {
			w := made(set{id(1, 1), first})
			w.Set(id(1, 1), second)
			wantAt(t, w, id(1, 1), second)
			wantNext(t, w, 1, second)
			if second > least {
				wantIds(t, "Due ahead of its tick", w.Due(second-1))
				wantNext(t, w, 1, second)
			}
			wantIds(t, "Due at its tick", w.Due(second), id(1, 1))
			wantNone(t, w, id(1, 1))
		}
	}
}

// seven are ids that are due at the ticks 10 to 70.
func seven() []set {
	var l []set
	for k := range 7 {
		l = append(l, set{id(k%3, 7-k), 10 + 10*k})
	}
	return l
}

// P16.1: among others, too: each of seven is set to each tick ahead of, at, between and behind theirs, and the others stay.
func TestSetAgainAmongOthers(t *testing.T) {
	for _, order := range orders(7) {
		for moved := range 7 {
			for at := 5; at <= 75; at += 5 {
				l, w, p := seven(), wheel.New(), &plain{}
				for _, k := range order {
					w.Set(l[k].id, l[k].at)
					p.set(l[k].id, l[k].at)
				}
				w.Set(l[moved].id, at)
				p.set(l[moved].id, at)
				l[moved].at = at
				for _, s := range l {
					wantAt(t, w, s.id, s.at)
				}
				next, _ := p.next()
				wantNext(t, w, 7, next)
				for now := 5; now <= 75; now += 5 {
					wantIds(t, fmt.Sprintf("Due(%d), when the id of %d was set to %d", now, 10+10*moved, at), w.Due(now), p.due(now)...)
				}
				wantNone(t, w, l[moved].id)
			}
		}
	}
}

// P16.1: an id that is set again and again is due at the last tick alone.
func TestSetOften(t *testing.T) {
	w := made(set{id(0, 1), 50}, set{id(0, 2), 60})
	for _, at := range []int{100, 1, 55, 55, 70, least, most, 60, 40, 50, 65} {
		w.Set(id(1, 1), at)
		wantAt(t, w, id(1, 1), at)
		wantNext(t, w, 3, min(50, at))
	}
	wantIds(t, "Due(64)", w.Due(64), id(0, 1), id(0, 2))
	wantIds(t, "Due of the greatest tick", w.Due(most), id(1, 1))
	wantNone(t, w, id(0, 1), id(0, 2), id(1, 1))
}

// P16.1: of seven, whichever is cancelled, the first, the last or one between, isn't due any more, and the others are.
func TestCancelEach(t *testing.T) {
	for _, order := range orders(7) {
		for gone := range 7 {
			w, l := wheel.New(), seven()
			for _, k := range order {
				w.Set(l[k].id, l[k].at)
			}
			want(t, "Cancel", w.Cancel(l[gone].id), true)
			wantNotDue(t, w, l[gone].id)
			var left []api.Id
			for k, s := range l {
				if k != gone {
					wantAt(t, w, s.id, s.at)
					left = append(left, s.id)
				}
			}
			first := 10
			if gone == 0 {
				first = 20
			}
			wantNext(t, w, 6, first)
			wantIds(t, "Due", w.Due(70), left...)
			wantNone(t, w, l[gone].id)
		}
	}
}

// P16.1: all are cancelled, in whatever order: each once, and behind each of them the others are due as they were.
func TestCancelAll(t *testing.T) {
	for _, order := range orders(7) {
		w, p, l := made(seven()...), &plain{seven()}, seven()
		for _, k := range order {
			next, _ := p.next()
			wantNext(t, w, len(p.l), next)
			want(t, "Cancel", w.Cancel(l[k].id), p.cancel(l[k].id))
			wantNotDue(t, w, l[k].id)
			for _, s := range p.l {
				wantAt(t, w, s.id, s.at)
			}
		}
		wantNone(t, w)
	}
}

// P16.1: a Cancel of what isn't due is false, and changes nothing.
func TestCancelOfNone(t *testing.T) {
	w := made(seven()...)
	for _, i := range inOrder() {
		if _, ok := w.At(i); !ok {
			want(t, "Cancel", w.Cancel(i), false)
		}
	}
	wantNext(t, w, 7, 10)
	for _, s := range seven() {
		wantAt(t, w, s.id, s.at)
	}
}

// P16.1: what was cancelled, and what was told by Due, is due again once it is set, at the new tick alone.
func TestSetBehindTheEnd(t *testing.T) {
	w := made(seven()...)
	want(t, "Cancel", w.Cancel(id(0, 4)), true)
	w.Set(id(0, 4), 15)
	wantAt(t, w, id(0, 4), 15)
	wantNext(t, w, 7, 10)
	wantIds(t, "Due(20)", w.Due(20), id(0, 7), id(0, 4), id(1, 6))
	w.Set(id(1, 6), 45)
	w.Set(id(0, 7), 20)
	wantNext(t, w, 6, 20)
	wantIds(t, "Due(20)", w.Due(20), id(0, 7))
	wantIds(t, "Due(40)", w.Due(40), id(2, 5))
	wantIds(t, "Due(50)", w.Due(50), id(1, 6), id(1, 3))
	wantNotDue(t, w, id(0, 4))
	wantNext(t, w, 2, 60)
}

// P16.1: Next is told behind each call: the least tick, whichever id has it, and how often.
func TestNext(t *testing.T) {
	w := wheel.New()
	for _, s := range []struct {
		set
		first int
	}{
		{set{id(0, 1), 50}, 50},
		{set{id(0, 2), 60}, 50},
		{set{id(0, 3), 40}, 40},
		{set{id(0, 4), 40}, 40},
		{set{id(0, 3), 70}, 40},
		{set{id(0, 4), 80}, 50},
		{set{id(0, 1), 65}, 60},
		{set{id(0, 2), 75}, 65},
		{set{id(0, 5), -5}, -5},
		{set{id(0, 5), least}, least},
		{set{id(0, 5), most}, 65},
	} {
		w.Set(s.id, s.at)
		wantNext(t, w, w.Len(), s.first)
		wantNext(t, w, w.Len(), s.first)
	}
	for _, s := range []struct {
		id    api.Id
		first int
	}{{id(0, 1), 70}, {id(0, 2), 70}, {id(0, 3), 80}, {id(0, 5), 80}} {
		want(t, "Cancel", w.Cancel(s.id), true)
		wantNext(t, w, w.Len(), s.first)
	}
	wantIds(t, "Due(79)", w.Due(79))
	wantNext(t, w, 1, 80)
	wantIds(t, "Due(80)", w.Due(80), id(0, 4))
	wantNone(t, w)
}

// P16.1: At, Next and Len change nothing, however often they are asked.
func TestAskingChangesNothing(t *testing.T) {
	w := made(seven()...)
	for range 100 {
		for _, s := range seven() {
			wantAt(t, w, s.id, s.at)
			wantNext(t, w, 7, 10)
		}
		if at, ok := w.At(id(9, 9)); ok || at != 0 {
			t.Fatalf("At of what isn't due: %d, %v", at, ok)
		}
	}
	wantIds(t, "Due", w.Due(99), id(0, 7), id(1, 6), id(2, 5), id(0, 4), id(1, 3), id(2, 2), id(0, 1))
}

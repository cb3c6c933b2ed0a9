package wheel_test

import (
	"fmt"
	"slices"
	"testing"

	"stonecrop/api"
	"stonecrop/ids"
	"stonecrop/wheel"
)

// P16.1: Due of a tick below all, at one's, one below it, between two, and above all: those whose tick isn't above it, and the others stay.
func TestDue(t *testing.T) {
	l := []api.Id{id(0, 7), id(1, 6), id(2, 5), id(0, 4), id(1, 3), id(2, 2), id(0, 1)}
	for now, count := range map[int]int{
		least: 0, -1: 0, 0: 0, 9: 0, 10: 1, 11: 1, 15: 1, 19: 1, 20: 2, 21: 2, 29: 2, 30: 3, 31: 3, 39: 3, 40: 4, 41: 4,
		49: 4, 50: 5, 51: 5, 59: 5, 60: 6, 61: 6, 69: 6, 70: 7, 71: 7, 1 << 40: 7, most - 1: 7, most: 7,
	} {
		w := made(seven()...)
		wantIds(t, fmt.Sprintf("Due(%d)", now), w.Due(now), l[:count]...)
		for _, i := range l[:count] {
			wantNotDue(t, w, i)
		}
		for k, i := range l[count:] {
			wantAt(t, w, i, 10+10*(count+k))
		}
		if count < 7 {
			wantNext(t, w, 7-count, 10+10*count)
		}
		wantIds(t, "a second Due", w.Due(now))
		wantIds(t, "Due of an earlier tick", w.Due(least))
		wantIds(t, "what is left", w.Due(most), l[count:]...)
		wantNone(t, w, l...)
	}
}

// P16.1: Due is in the order of ticks, whatever the order in which they were set, and that of the ids: the two are against each other here.
func TestDueInOrderOfTicks(t *testing.T) {
	at, l := ticks(), inOrder()
	for _, order := range orders(len(at)) {
		w := wheel.New()
		var due []api.Id
		for k := range at {
			due = append(due, l[len(at)-1-k])
		}
		for _, k := range order {
			w.Set(due[k], at[k])
		}
		wantNext(t, w, len(at), least)
		wantIds(t, "Due of all", w.Due(most), due...)
		wantNone(t, w, due...)
	}
}

// P16.1: of ticks at the edges: each is due at its own and at none below it.
func TestDueTickByTick(t *testing.T) {
	at := ticks()
	for _, order := range orders(len(at)) {
		w := wheel.New()
		for _, k := range order {
			w.Set(id(k%7, 100-k), at[k])
		}
		for k, now := range at {
			wantNext(t, w, len(at)-k, now)
			if now > least && (k == 0 || at[k-1] < now-1) {
				wantIds(t, fmt.Sprintf("Due one below %d", now), w.Due(now-1))
			}
			wantAt(t, w, id(k%7, 100-k), now)
			wantIds(t, fmt.Sprintf("Due(%d)", now), w.Due(now), id(k%7, 100-k))
			wantNotDue(t, w, id(k%7, 100-k))
		}
		wantNone(t, w)
	}
}

// P16.1: of one tick they are in the order of their ids, by N and then by R, however they were set.
func TestDueInOrderOfIds(t *testing.T) {
	l := inOrder()
	for _, at := range []int{least, -1, 0, 1, 1 << 40, most} {
		for _, order := range orders(len(l)) {
			w := wheel.New()
			for _, k := range order {
				w.Set(l[k], at)
			}
			wantNext(t, w, len(l), at)
			if at > least {
				wantIds(t, "Due one below", w.Due(at-1))
			}
			wantIds(t, fmt.Sprintf("Due(%d)", at), w.Due(at), l...)
			wantNone(t, w, l...)
		}
	}
}

// P16.1: of some ticks with some ids each: by ticks first, then by ids.
func TestDueInOrderOfBoth(t *testing.T) {
	l := inOrder()
	for _, order := range orders(3 * len(l)) {
		w := wheel.New()
		var due []api.Id
		for turn := range 3 {
			for _, i := range l {
				due = append(due, id(i.R^(turn+1)<<50, i.N))
			}
		}
		for turn := range 3 {
			slices.SortFunc(due[turn*len(l):(turn+1)*len(l)], byId)
		}
		for _, k := range order {
			w.Set(due[k], -1+k/len(l))
		}
		wantIds(t, "Due(-2)", w.Due(-2))
		wantIds(t, "Due(0)", w.Due(0), due[:2*len(l)]...)
		wantNext(t, w, len(l), 1)
		wantIds(t, "Due(1)", w.Due(1), due[2*len(l):]...)
		wantNone(t, w, due...)
	}
}

func byId(a, b api.Id) int {
	if ids.Less(a, b) {
		return -1
	}
	return 1
}

// P16.1: what is set to one tick from others, earlier or later, is among those of that tick in the order of their ids.
func TestDueOfWhatCameTogether(t *testing.T) {
	l := inOrder()
	w := wheel.New()
	for k, i := range l {
		w.Set(i, 1000-k)
	}
	for k := 0; k < len(l); k += 2 {
		w.Set(l[k], 5)
	}
	for k := 1; k < len(l); k += 2 {
		w.Set(l[k], 2000+k)
	}
	for k := 1; k < len(l); k += 2 {
		w.Set(l[k], 5)
	}
	wantNext(t, w, len(l), 5)
	wantIds(t, "Due(5)", w.Due(5), l...)
	wantNone(t, w)
}

// P16.1: the example of the shared tests: it is set from an earlier tick to that of two others, and cancelled there.
func TestDueWithoutWhatWasCancelled(t *testing.T) {
	w := made(set{id(1, 1), 4}, set{id(0, 2), 2}, set{id(0, 1), 4}, set{id(0, 2), 4})
	wantNext(t, w, 3, 4)
	want(t, "Cancel", w.Cancel(id(0, 2)), true)
	wantIds(t, "Due(3)", w.Due(3))
	wantIds(t, "Due(4)", w.Due(4), id(0, 1), id(1, 1))
	wantNone(t, w, id(0, 1), id(1, 1), id(0, 2))
}

// P16.1: behind a Due, ids are due again, and new ones are, also at ticks that have passed: those are told by the next Due of the same tick.
func TestDueBehindDue(t *testing.T) {
	w := made(seven()...)
	wantIds(t, "Due(35)", w.Due(35), id(0, 7), id(1, 6), id(2, 5))
	w.Set(id(1, 6), 5)
	w.Set(id(0, 7), 35)
	w.Set(id(3, 3), 36)
	w.Set(id(3, 2), least)
	wantNext(t, w, 8, least)
	wantIds(t, "Due(35)", w.Due(35), id(3, 2), id(1, 6), id(0, 7))
	wantIds(t, "Due(35)", w.Due(35))
	wantNext(t, w, 5, 36)
	w.Set(id(0, 1), 34)
	wantIds(t, "Due(34)", w.Due(34), id(0, 1))
	wantIds(t, "Due of a tick that was", w.Due(10))
	wantIds(t, "Due of all", w.Due(most), id(3, 3), id(0, 4), id(1, 3), id(2, 2))
	wantNone(t, w)
}

// P16.1: a timer that is set anew whenever it is told, as replicas do.
func TestDueOverAndOver(t *testing.T) {
	w := made(set{id(0, 1), 3}, set{id(0, 2), 4})
	told := ""
	for now := range 14 {
		for _, i := range w.Due(now) {
			told += fmt.Sprintf(" %d:%d", now, i.N)
			w.Set(i, now+2+i.N)
		}
		want(t, "Len", w.Len(), 2)
	}
	want(t, "what was told", told, " 3:1 4:2 6:1 8:2 9:1 12:1 12:2")
}

// P16.1: many at one tick, many at as many ticks, and many at few, set in an order that is none; and all of them set elsewhere, or cancelled.
func TestMany(t *testing.T) {
	const many = 20000
	for _, few := range []int{1, 17, many} {
		w := wheel.New()
		var all []set
		for k := range many {
			s := set{id(k*7919%many%7, k*7919%many), k * 104729 % many % few}
			all = append(all, s)
			w.Set(s.id, s.at)
		}
		wantNext(t, w, many, 0)
		for k := 0; k < many; k += 3 {
			want(t, "Cancel", w.Cancel(all[k].id), true)
		}
		for k := 1; k < many; k += 3 {
			all[k].at = -all[k].at
			w.Set(all[k].id, all[k].at)
		}
		var left []set
		for k, s := range all {
			if k%3 != 0 {
				left = append(left, s)
			}
		}
		slices.SortFunc(left, func(a, b set) int {
			if ahead(a, b) {
				return -1
			}
			return 1
		})
		wantNext(t, w, len(left), left[0].at)
		for at := -few; len(left) > 0; at += few/5 + 1 {
			var due []api.Id
			for len(left) > 0 && left[0].at <= at {
				due, left = append(due, left[0].id), left[1:]
			}
			wantIds(t, fmt.Sprintf("Due(%d)", at), w.Due(at), due...)
			want(t, "Len", w.Len(), len(left))
		}
		wantNone(t, w)
	}
}

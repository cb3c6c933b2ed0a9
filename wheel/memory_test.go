package wheel_test

import (
	"fmt"
	"slices"
	"testing"

	"stonecrop/api"
	"stonecrop/wheel"
)

// over writes another id over all of a list, and behind it as far as its memory goes.
func over(l []api.Id) {
	l = l[:cap(l)]
	for at := range l {
		l[at] = id(-7, -7)
	}
}

// changes are what may become of a wheel of which seven were due.
func changes() map[string]func(w *wheel.Wheel) {
	return map[string]func(w *wheel.Wheel){
		"nothing":           func(w *wheel.Wheel) {},
		"Set of one told":   func(w *wheel.Wheel) { w.Set(id(0, 7), 1) },
		"Set of one due":    func(w *wheel.Wheel) { w.Set(id(2, 2), 1) },
		"Set of others":     func(w *wheel.Wheel) { w.Set(id(5, 5), 1); w.Set(id(5, 6), 100); w.Set(id(5, 7), 65) },
		"Cancel":            func(w *wheel.Wheel) { w.Cancel(id(2, 2)); w.Cancel(id(0, 1)) },
		"Due":               func(w *wheel.Wheel) { w.Due(60) },
		"Due and over":      func(w *wheel.Wheel) { over(w.Due(60)) },
		"Due of all":        func(w *wheel.Wheel) { over(w.Due(most)) },
		"all, and all anew": func(w *wheel.Wheel) { w.Due(most); w.Set(id(4, 4), 1); w.Set(id(4, 5), 2); w.Set(id(4, 6), 3) },
	}
}

// P16.2: what Due answers stays as it is, whatever becomes of the wheel, and the wheel stays when that is written over.
func TestMemoryOfDue(t *testing.T) {
	for what, do := range changes() {
		w, twin := made(seven()...), made(seven()...)
		l := w.Due(30)
		wantIds(t, "Due(30) of the twin", twin.Due(30), id(0, 7), id(1, 6), id(2, 5))
		do(w)
		do(twin)
		wantIds(t, "the answer behind "+what, l, id(0, 7), id(1, 6), id(2, 5))
		over(l)
		l = append(l, id(-8, -8))
		over(l)
		wantAlike(t, w, twin)
	}
}

// wantAlike is that both wheels say the same. It leaves them without ids.
func wantAlike(t *testing.T, w, twin *wheel.Wheel) {
	t.Helper()
	want(t, "Len", w.Len(), twin.Len())
	for _, i := range slices.Concat(inOrder(), []api.Id{id(0, 7), id(1, 6), id(2, 5), id(0, 4), id(1, 3), id(2, 2), id(0, 1), id(5, 5), id(-7, -7), id(-8, -8)}) {
		at, ok := twin.At(i)
		got, is := w.At(i)
		want(t, fmt.Sprintf("At(%v)", i), got, at)
		want(t, fmt.Sprintf("At(%v)", i), is, ok)
	}
	for now := range 110 {
		at, ok := twin.Next()
		got, is := w.Next()
		want(t, "Next", got, at)
		want(t, "Next", is, ok)
		wantIds(t, fmt.Sprintf("Due(%d)", now), w.Due(now), twin.Due(now)...)
	}
	wantNone(t, w)
}

// P16.2: two answers, and what lies behind them, are each by themselves.
func TestMemoryOfTwoAnswers(t *testing.T) {
	w := made(seven()...)
	first, second, rest := w.Due(20), w.Due(50), w.Due(most)
	first = append(first, id(8, 8), id(8, 9), id(8, 10))
	over(first)
	wantIds(t, "the second", second, id(2, 5), id(0, 4), id(1, 3))
	over(second)
	wantIds(t, "the third", rest, id(2, 2), id(0, 1))
	w.Set(id(3, 3), 1)
	none := w.Due(0)
	none = append(none, id(8, 8))
	over(none)
	wantIds(t, "the third", rest, id(2, 2), id(0, 1))
	wantIds(t, "Due(1)", w.Due(1), id(3, 3))
}

// P16.2: what lies behind an answer, as far as its memory goes, is none of the next one's.
func TestMemoryBehindAnswers(t *testing.T) {
	for count := 1; count <= 6; count++ {
		w, all := made(seven()...), []api.Id{id(0, 7), id(1, 6), id(2, 5), id(0, 4), id(1, 3), id(2, 2), id(0, 1)}
		first := w.Due(10 * count)
		second := w.Due(10*count + 10)
		over(first)
		wantIds(t, "the second", second, all[count])
		over(second)
		wantIds(t, "the third", w.Due(most), all[count+1:]...)
	}
}

// P16.2: the answers of many, of which the wheel's own list is great by then, too.
func TestMemoryOfMany(t *testing.T) {
	w := wheel.New()
	for k := range 1000 {
		w.Set(id(0, k), k/2)
	}
	l := w.Due(249)
	want(t, "how many", len(l), 500)
	for k := range 1000 {
		w.Set(id(1, k), k)
	}
	for k, i := range l {
		want(t, "an id", i, id(0, k))
	}
	over(l)
	for k := range 500 {
		wantAt(t, w, id(0, 500+k), 250+k/2)
		wantAt(t, w, id(1, k), k)
	}
	want(t, "Len", w.Len(), 1500)
}

// R6: the same calls have the same answers, each time.
func TestSameAnswers(t *testing.T) {
	first := ""
	for round := range 50 {
		w := wheel.New()
		said := ""
		for k := range 60 {
			w.Set(id(k*5%7, k%9), k*11%6)
			said += fmt.Sprint(w.Cancel(id(k%7, 3)), w.Len())
			if k%10 == 9 {
				at, ok := w.Next()
				said += fmt.Sprint(at, ok, w.Due(k/15))
			}
		}
		said += fmt.Sprint(w.Due(most))
		if round == 0 {
			first = said
		}
		want(t, "what was said", said, first)
	}
}

package bag_test

import (
	"fmt"
	"math"
	"slices"
	"testing"

	"stonecrop/api"
	"stonecrop/bag"
)

const (
	most  = math.MaxInt
	least = math.MinInt
)

func env(from, to int, b string) api.Env { return api.Env{From: from, To: to, B: []byte(b)} }

// text is all that an envelope has, as one text: two that differ in anything have other ones.
func text(e api.Env) string { return fmt.Sprintf("%d %d %s", e.From, e.To, e.B) }

// letter is an envelope that no other number has.
func letter(k int) api.Env { return env(k, -k, fmt.Sprintf("e%d", k)) }

// letters are the texts of the envelopes from on, and ahead of behind.
func letters(from, behind int) []string {
	var l []string
	for k := from; k < behind; k++ {
		l = append(l, text(letter(k)))
	}
	return l
}

// made is a bag of so much room that took these envelopes.
func made(t *testing.T, room int, l ...api.Env) *bag.Bag {
	t.Helper()
	b := bag.New(room)
	for at, e := range l {
		if !b.Put(e) {
			t.Fatalf("envelope %d of %d has no room of %d", at, len(l), room)
		}
	}
	return b
}

// lettered is a bag of so much room with the first so many letters.
func lettered(t *testing.T, room, count int) *bag.Bag {
	t.Helper()
	var l []api.Env
	for k := range count {
		l = append(l, letter(k))
	}
	return made(t, room, l...)
}

// shown are the texts of all envelopes of a bag, by Len and At.
func shown(t *testing.T, b *bag.Bag) []string {
	t.Helper()
	var l []string
	for i := range b.Len() {
		e, ok := b.At(i)
		if !ok {
			t.Fatalf("of %d envelopes there is no %d", b.Len(), i)
		}
		l = append(l, text(e))
	}
	return l
}

func wantShown(t *testing.T, b *bag.Bag, want ...string) {
	t.Helper()
	if got := shown(t, b); !slices.Equal(got, want) {
		t.Fatalf("it has %.300q, want %.300q", got, want)
	}
}

// wantEnv is that there is an envelope, and which.
func wantEnv(t *testing.T, e api.Env, ok bool, want string) {
	t.Helper()
	if !ok || text(e) != want {
		t.Fatalf("it is %.100q, %v, want %.100q", text(e), ok, want)
	}
}

// wantNone is that there is none, and that what is answered beside that is zero.
func wantNone(t *testing.T, e api.Env, ok bool) {
	t.Helper()
	if ok || e.From != 0 || e.To != 0 || len(e.B) != 0 {
		t.Fatalf("it is %.100q, %v, want none", text(e), ok)
	}
}

func want[T comparable](t *testing.T, what string, got, want T) {
	t.Helper()
	if got != want {
		t.Fatalf("%s: %#v, want %#v", what, got, want)
	}
}

// wantRoom is that there is room for so many envelopes behind those that are there, and for none more. It leaves the bag full.
func wantRoom(t *testing.T, b *bag.Bag, room int) {
	t.Helper()
	l := shown(t, b)
	for k := range room {
		e := env(least, k, "more")
		want(t, "Put of what there is room for", b.Put(e), true)
		l = append(l, text(e))
	}
	for range 2 {
		want(t, "Put of what there is no room for", b.Put(env(most, most, "lost")), false)
	}
	wantShown(t, b, l...)
}

// rooms are what New is asked for, with the room that it gives.
func rooms() map[int]int {
	return map[int]int{
		least: 0, least + 1: 0, -1 << 32: 0, -4097: 0, -4096: 0, -2: 0, -1: 0, 0: 0,
		1: 1, 2: 2, 3: 3, 16: 16, 100: 100, 4095: 4095, 4096: 4096,
		4097: 4096, 4098: 4096, 8192: 4096, 1 << 20: 4096, 1<<32 + 1: 4096, most - 1: 4096, most: 4096,
	}
}

// nowhere are indices at which a bag of so many envelopes has none.
func nowhere(count int) []int {
	return []int{least, least + 1, -1 << 32, -4096, -count - 1, -count, -1, count, count + 1, count + 2, 2*count + 1, 4096, 4097, 1 << 32, 1<<32 + 1, most - 1, most}
}

// plain is a bag once more, by other means: its envelopes are texts, which nobody can write over, and each change makes a new list.
type plain struct {
	l    []string
	room int
}

func newPlain(room int) *plain {
	switch {
	case room < 0:
		return &plain{}
	case room > 4096:
		return &plain{room: 4096}
	}
	return &plain{room: room}
}

func (p *plain) put(s string) bool {
	if len(p.l)+1 > p.room {
		return false
	}
	p.l = slices.Concat(p.l, []string{s})
	return true
}

func (p *plain) at(i int) (string, bool) {
	for k, s := range p.l {
		if k == i {
			return s, true
		}
	}
	return "", false
}

func (p *plain) take(i int) (string, bool) {
	s, ok := p.at(i)
	if ok {
		p.l = slices.Concat(p.l[:i], p.l[i+1:])
	}
	return s, ok
}

func (p *plain) twice(i int) bool {
	s, ok := p.at(i)
	return ok && p.put(s)
}

func (p *plain) filter(keep func(s string) bool) int {
	var kept []string
	out := 0
	for _, s := range p.l {
		if keep(s) {
			kept = append(kept, s)
		} else {
			out++
		}
	}
	p.l = kept
	return out
}

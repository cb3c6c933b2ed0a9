package bag_test

import (
	"errors"
	"slices"
	"testing"

	"stonecrop/api"
	"stonecrop/bag"
)

// byPlace tells of the envelopes that it is asked of, one behind the other, what stands in l.
func byPlace(l []bool) func(api.Env) bool {
	at := 0
	return func(api.Env) bool {
		at++
		return l[at-1]
	}
}

// wantFilter filters a bag that has the letters from 0 on by what keeps tells of each, and holds all of it against these.
func wantFilter(t *testing.T, b *bag.Bag, keeps []bool) {
	t.Helper()
	var asked, kept []string
	tell := byPlace(keeps)
	out := b.Filter(func(e api.Env) bool {
		asked = append(asked, text(e))
		return tell(e)
	})
	all := letters(0, len(keeps))
	for k, ok := range keeps {
		if ok {
			kept = append(kept, all[k])
		}
	}
	if !slices.Equal(asked, all) {
		t.Fatalf("it asks of %.300q, want %.300q", asked, all)
	}
	want(t, "Filter", out, len(keeps)-len(kept))
	wantShown(t, b, kept...)
}

// P15.1: Filter of up to seven envelopes, with any of them kept; the room behind it; once more behind that.
func TestFilter(t *testing.T) {
	for count := range 8 {
		for mask := range 1 << count {
			keeps := make([]bool, count)
			n := 0
			for k := range keeps {
				keeps[k] = mask>>k&1 == 1
				n += mask >> k & 1
			}
			for more := range 2 {
				b := lettered(t, count+more, count)
				wantFilter(t, b, keeps)
				want(t, "Filter that keeps all", b.Filter(func(api.Env) bool { return true }), 0)
				wantRoom(t, b, count+more-n)
			}
		}
	}
}

// P15.1: Filter of a full bag: it keeps all, none, and some at its beginning, in its middle and at its end.
func TestFilterOfFullBag(t *testing.T) {
	for name, keeps := range map[string]func(k int) bool{
		"all":               func(int) bool { return true },
		"none":              func(int) bool { return false },
		"the first":         func(k int) bool { return k == 0 },
		"the last":          func(k int) bool { return k == 4095 },
		"one":               func(k int) bool { return k == 2000 },
		"all but the first": func(k int) bool { return k != 0 },
		"all but the last":  func(k int) bool { return k != 4095 },
		"all but one":       func(k int) bool { return k != 2000 },
		"the beginning":     func(k int) bool { return k < 1000 },
		"the middle":        func(k int) bool { return k >= 1000 && k < 3000 },
		"the end":           func(k int) bool { return k >= 3000 },
		"all but a middle":  func(k int) bool { return k < 1000 || k >= 3000 },
		"each other one":    func(k int) bool { return k%2 == 0 },
		"each third":        func(k int) bool { return k%3 == 1 },
	} {
		t.Run(name, func(t *testing.T) {
			b := lettered(t, most, 4096)
			l := make([]bool, 4096)
			n := 0
			for k := range l {
				if l[k] = keeps(k); l[k] {
					n++
				}
			}
			wantFilter(t, b, l)
			wantRoom(t, b, 4096-n)
		})
	}
}

// P15.1: Filter of a bag without envelopes asks of none.
func TestFilterOfNone(t *testing.T) {
	emptied := lettered(t, 3, 3)
	for range 3 {
		emptied.Take(1 % emptied.Len())
	}
	for _, b := range []*bag.Bag{bag.New(0), bag.New(-1), bag.New(3), emptied} {
		want(t, "Filter", b.Filter(func(api.Env) bool {
			t.Error("it asks of an envelope")
			return false
		}), 0)
		want(t, "Len", b.Len(), 0)
	}
	wantRoom(t, emptied, 3)
}

// P15.1: Filter by what an envelope has: From, To, or its bytes; of those that are alike each is asked of, and told of by itself.
func TestFilterByParts(t *testing.T) {
	for _, row := range []struct {
		keep func(e api.Env) bool
		left []string
	}{
		{func(e api.Env) bool { return e.From == 1 }, []string{"1 2 a", "1 3 b", "1 2 a"}},
		{func(e api.Env) bool { return e.To != 2 }, []string{"1 3 b", "2 3 a"}},
		{func(e api.Env) bool { return string(e.B) == "a" }, []string{"1 2 a", "2 3 a", "1 2 a"}},
		{byPlace([]bool{false, true, true, true, true}), []string{"1 3 b", "2 3 a", "2 2 b", "1 2 a"}},
		{byPlace([]bool{true, true, true, true, false}), []string{"1 2 a", "1 3 b", "2 3 a", "2 2 b"}},
	} {
		b := made(t, 6, env(1, 2, "a"), env(1, 3, "b"), env(2, 3, "a"), env(2, 2, "b"))
		want(t, "Twice", b.Twice(0), true)
		want(t, "Filter", b.Filter(row.keep), 5-len(row.left))
		wantShown(t, b, row.left...)
		wantRoom(t, b, 6-len(row.left))
	}
}

// P1, P15.1: a keep that is nil tells nothing false: none is out.
func TestFilterOfNil(t *testing.T) {
	for count := range 4 {
		b := lettered(t, 3, count)
		want(t, "Filter of nil", b.Filter(nil), 0)
		wantShown(t, b, letters(0, count)...)
		wantRoom(t, b, 3-count)
	}
}

// P1: a keep that panics is caught, whatever it told ahead of that: none is out, and the bag goes on.
func TestFilterThatPanics(t *testing.T) {
	for _, what := range []any{"a text", 7, errors.New("an error"), nil, api.ErrFull} {
		for at := range 4 {
			b := lettered(t, 5, 4)
			asked := 0
			out := b.Filter(func(api.Env) bool {
				if asked == at {
					panic(what)
				}
				asked++
				return asked%2 == 0
			})
			want(t, "Filter", out, 0)
			wantShown(t, b, letters(0, 4)...)
			wantFilter(t, b, []bool{true, false, true, true})
			wantRoom(t, b, 2)
		}
	}
	b := lettered(t, 2, 2)
	want(t, "Filter", b.Filter(func(e api.Env) bool { return e.B[most] == 0 }), 0)
	wantShown(t, b, letters(0, 2)...)
}

// P1, P15.1: a keep that asks the bag finds all envelopes there, as none is out yet.
func TestFilterThatAsksTheBag(t *testing.T) {
	b := lettered(t, 4, 4)
	at := 0
	out := b.Filter(func(e api.Env) bool {
		wantShown(t, b, letters(0, 4)...)
		got, ok := b.At(at)
		wantEnv(t, got, ok, text(e))
		want(t, "Put", b.Put(letter(9)), false)
		want(t, "Twice", b.Twice(at), false)
		at++
		return at == 2
	})
	want(t, "Filter", out, 3)
	wantShown(t, b, letters(1, 2)...)
}

// P1, P15.1: a keep may change the bag: what it puts is there behind it and isn't asked of, what it takes is out once, and it ends.
func TestFilterThatChangesTheBag(t *testing.T) {
	asked := 0
	b := lettered(t, 4096, 3)
	want(t, "Filter", b.Filter(func(api.Env) bool {
		asked++
		want(t, "Put", b.Put(letter(10+asked)), true)
		want(t, "Twice", b.Twice(0), true)
		return asked == 2
	}), 2)
	want(t, "how often it asks", asked, 3)
	first := text(letter(0))
	wantShown(t, b, text(letter(1)), text(letter(11)), first, text(letter(12)), first, text(letter(13)), first)
}

// P1, P15.1: what keep takes is out and stays so, whether it was asked of ahead of that or not, and may be written over; Filter counts what it took itself.
func TestFilterThatTakes(t *testing.T) {
	for _, tells := range []bool{true, false} {
		for when := range 4 {
			for i := range 4 {
				b := lettered(t, 4, 4)
				out := b.Filter(func(e api.Env) bool {
					wantEnv(t, e, true, text(letter(e.From)))
					if e.From == when {
						got, ok := b.Take(i)
						wantEnv(t, got, ok, text(letter(i)))
						over(got)
					}
					return tells
				})
				if tells {
					want(t, "Filter", out, 0)
					wantShown(t, b, slices.Concat(letters(0, i), letters(i+1, 4))...)
				} else {
					want(t, "Filter", out, 3)
					wantShown(t, b)
				}
			}
		}
	}
}

// P1, P15.1: a keep that takes one and puts it back, each time it is asked, comes to an end.
func TestFilterThatTurnsTheBag(t *testing.T) {
	b := lettered(t, 3, 3)
	asked := 0
	out := b.Filter(func(api.Env) bool {
		e, ok := b.Take(0)
		want(t, "Take", ok, true)
		want(t, "Put", b.Put(e), true)
		asked++
		return asked > 1
	})
	want(t, "Filter", out, 0)
	wantShown(t, b, letters(0, 3)...)
}

// P1, P15.1: a keep that filters the bag: both take out what they were told, and each counts what it took itself.
func TestFilterWithinFilter(t *testing.T) {
	b := lettered(t, 6, 6)
	within := []int{}
	out := b.Filter(func(e api.Env) bool {
		if e.From == 2 {
			within = append(within, b.Filter(func(e api.Env) bool { return e.From > 1 }))
			within = append(within, b.Filter(func(e api.Env) bool { return e.From != 4 }))
		}
		return e.From%2 == 1
	})
	if !slices.Equal(within, []int{2, 1}) || out != 1 {
		t.Errorf("within it are %v out, and by it %d", within, out)
	}
	wantShown(t, b, text(letter(3)), text(letter(5)))
	wantRoom(t, b, 4)

	b = lettered(t, 3, 3)
	deep := 0
	var all func(api.Env) bool
	all = func(api.Env) bool {
		if deep++; deep < 20 {
			b.Filter(all)
		}
		return false
	}
	want(t, "Filter", b.Filter(all), 0)
	wantShown(t, b)
	wantRoom(t, b, 3)
}

package index_test

import (
	"fmt"
	"slices"
	"strings"
	"testing"

	"stonecrop/api"
	"stonecrop/index"
)

// P17.1: commands of each Kind against those of each, written out: of another client and the same key, of another key, of the same client.
func TestKinds(t *testing.T) {
	rows := []struct {
		kind int
		same string // the kinds that it meets, of another client and the same key
		own  string // and of the same client, and any key
	}{
		{0, "", ""},
		{1, "2346", "123456"},
		{2, "123456", "123456"},
		{3, "123456", "123456"},
		{4, "123456", "123456"},
		{5, "2346", "123456"},
		{6, "123456", "123456"},
	}
	for _, r := range rows {
		for kind := range 7 {
			digit := fmt.Sprint(kind)
			x := made(held{id(1, 4), command(kind, 2, "key"), 6})
			wantOne(t, x, command(r.kind, 3, "key"), strings.Contains(r.same, digit))
			wantOne(t, x, command(r.kind, 2, "other"), strings.Contains(r.own, digit))
			either := (kind == 6 || r.kind == 6) && kind != 0 && r.kind != 0
			wantOne(t, x, command(r.kind, 3, "other"), either)
			wantOne(t, x, barrier, kind != 0)
		}
	}
}

// wantOne is that c meets the one that is there, 1.4 with 6, or that it doesn't.
func wantOne(t *testing.T, x *index.Index, c api.Cmd, met bool) {
	t.Helper()
	if met {
		wantMet(t, x, c, 7, id(1, 4))
	} else {
		wantMet(t, x, c, 1)
	}
	wantMetBut(t, x, c, id(1, 4), 1)
}

// P17.1: keys of which one begins with the other, for finds on either side and for others.
func TestBeginnings(t *testing.T) {
	for _, r := range []struct {
		key, beginning string
		met            bool
	}{
		{"ab", "a", true}, {"ab", "ab", true}, {"ab", "", true}, {"ab", "abc", false}, {"ab", "b", false},
		{"", "", true}, {"", "a", false}, {"a", "A", false}, {"\u03b1", "\xce", true}, {"\xce", "\u03b1", false},
		{"\xff\xfe", "\xff", true}, {"\xff", "\xff\xfe", false}, {"\xff", "\xef\xbf\xbd", false}, {"\xef\xbf\xbd", "\xff", false},
		{"a\x00b", "a\x00", true}, {"ab", "a\x00", false}, {strings.Repeat("k", 5000), strings.Repeat("k", 4999), true},
		{strings.Repeat("k", 4999), strings.Repeat("k", 5000), false}, {"\xed\xa0\x80", "\xed\xa0", true},
	} {
		for kind := 1; kind <= 5; kind++ {
			write := kind >= 2 && kind <= 4
			x := made(held{id(1, 4), find(2, r.beginning), 6})
			wantOne(t, x, command(kind, 3, r.key), r.met && write)
			x = made(held{id(1, 4), command(kind, 2, r.key), 6})
			wantOne(t, x, find(3, r.beginning), r.met && write)
			x = made(held{id(1, 4), put(2, r.beginning), 6})
			if kind != 5 && r.key != r.beginning {
				wantOne(t, x, command(kind, 3, r.key), false)
			}
		}
	}
}

// P17.1: a find asks all keys that begin as it says, and is asked by them, beside many that don't.
func TestFindsAmongMany(t *testing.T) {
	x := index.New()
	var a, ab, all []api.Id
	for k := range 600 {
		key := fmt.Sprintf("%c%c%d", 'a'+k%3, 'a'+k/3%3, k)
		i := id(k%7, k)
		x.Put(i, put(1+k, key), k)
		all = append(all, i)
		if k%3 == 0 {
			a = append(a, i)
			if k/3%3 == 1 {
				ab = append(ab, i)
			}
		}
	}
	wantMet(t, x, find(9999, "a"), 598, a...)
	wantMet(t, x, find(9999, "ab"), 598, ab...)
	wantMet(t, x, find(9999, ""), 600, all...)
	wantMet(t, x, find(9999, "d"), 1)
	wantMet(t, x, find(9999, "aa0"), 1, id(0, 0))
	wantMet(t, x, find(600, "ab"), 600, append(ab, id(4, 599))...)
	for k := range 600 {
		x.Put(id(k%7, k), find(1+k, []string{"a", "ab", "abc", "b", ""}[k%5]), k)
	}
	wantIdsBy(t, x.Deps(put(9999, "abb"), none), func(k int) bool { return k%5 == 0 || k%5 == 1 || k%5 == 4 })
	wantIdsBy(t, x.Deps(put(9999, "abcd"), none), func(k int) bool { return k%5 != 3 })
	wantIdsBy(t, x.Deps(put(9999, "q"), none), func(k int) bool { return k%5 == 4 })
	wantIdsBy(t, x.Deps(get(9999, "abc"), none), func(k int) bool { return false })
	wantIdsBy(t, x.Deps(find(9999, ""), none), func(k int) bool { return false })
}

// wantIdsBy is that just those of 600 are answered that fit.
func wantIdsBy(t *testing.T, got []api.Id, fits func(k int) bool) {
	t.Helper()
	var l []api.Id
	for k := range 600 {
		if fits(k) {
			l = append(l, id(k%7, k))
		}
	}
	wantIds(t, "those that fit", got, l...)
}

// P17.1: barriers meet all but no-ops, on either side, whatever client and key they have; no-ops meet none.
func TestBarriersAndNoops(t *testing.T) {
	x := made(
		held{id(0, 1), barrier, 1}, held{id(1, 1), barrier, 2}, held{id(2, 1), noop, 30}, held{id(3, 1), put(1, "a"), 4},
		held{id(4, 1), get(2, "b"), 5}, held{id(5, 1), find(3, ""), 6}, held{id(6, 1), command(99, -1, "c"), 7},
		held{id(0, 2), command(6, 1, "a"), 8}, held{id(1, 2), command(0, 1, "a"), 40},
	)
	want(t, "Len", x.Len(), 9)
	barriers := []api.Id{id(0, 1), id(1, 1), id(0, 2)}
	all := []api.Id{id(0, 1), id(1, 1), id(3, 1), id(4, 1), id(5, 1), id(6, 1), id(0, 2)}
	for _, c := range []api.Cmd{barrier, command(6, 1, "a"), command(6, -1, "\xff"), {Kind: 6, Seq: -1, Val: "v", Rev: 9}} {
		wantMet(t, x, c, 9, all...)
	}
	for _, c := range []api.Cmd{noop, command(0, 1, "a"), command(0, 0, ""), {Seq: 5, Val: "v", Rev: 9}} {
		wantMet(t, x, c, 1)
	}
	for _, c := range []api.Cmd{get(9, "q"), find(9, "q"), command(99, 9, "q"), command(-1, 0, ""), get(0, "")} {
		wantMet(t, x, c, 9, barriers...)
	}
	for _, i := range barriers {
		x.Drop(i)
	}
	wantMet(t, x, get(9, "q"), 1)
	wantMet(t, x, barrier, 8, id(3, 1), id(4, 1), id(5, 1), id(6, 1))
}

// P17.1: of a barrier or a no-op neither client nor key is asked, of any other both are, be they right or not.
func TestCommandsThatArentRight(t *testing.T) {
	for _, client := range clients() {
		x := made(held{id(1, 4), command(6, client, "a"), 6})
		wantOne(t, x, get(client, "b"), true)
		wantOne(t, x, command(0, client, "a"), false)
		x = made(held{id(1, 4), command(0, client, "a"), 6})
		wantOne(t, x, put(client, "a"), false)
		wantOne(t, x, barrier, false)
		for _, kind := range kinds() {
			if kind == 0 || kind == 6 {
				continue
			}
			x = made(held{id(1, 4), command(kind, client, "a"), 6})
			wantOne(t, x, get(client, "b"), true)
			wantOne(t, x, get(client+1, "b"), false)
			wantOne(t, x, put(client+1, "a"), true)
			wantOne(t, x, command(-7, client, "\xff"), true)
			wantOne(t, x, command(-7, client+1, "a"), kind == 2 || kind == 3 || kind == 4)
			wantOne(t, x, command(-7, client-1, "b"), false)
		}
	}
	for _, key := range keys() {
		x := made(held{id(1, 4), command(8, 1, key), 6})
		wantOne(t, x, remove(2, key), true)
		wantOne(t, x, remove(2, key+"x"), false)
		wantOne(t, x, find(2, key), false)
		wantOne(t, x, command(8, 2, key), false)
	}
}

// P17.1: parts that Meet doesn't ask of change nothing.
func TestOtherParts(t *testing.T) {
	for _, kind := range kinds() {
		for _, seq := range []int{0, -1, 5, least, most} {
			c := api.Cmd{Kind: kind, Client: 1, Seq: seq, Key: "a", Val: strings.Repeat("v", 3000), Rev: -seq}
			x := made(held{id(1, 4), c, 6})
			for _, other := range kinds() {
				for _, client := range []int{1, 2} {
					c := api.Cmd{Kind: other, Client: client, Seq: -seq, Key: "a", Val: "w", Rev: seq}
					wantOne(t, x, c, meet(c, command(kind, 1, "a")))
				}
			}
		}
	}
}

// P17.1, P17.2: an id that is met for more than one thing is answered once.
func TestOnce(t *testing.T) {
	x := made(held{id(0, 2), put(1, "a"), 2}, held{id(0, 1), find(1, "a"), 3}, held{id(1, 1), put(1, "a"), 4})
	for _, c := range []api.Cmd{put(1, "a"), find(1, "a"), find(1, ""), get(1, "a"), barrier, command(6, 1, "a")} {
		wantMet(t, x, c, 5, id(0, 1), id(1, 1), id(0, 2))
	}
}

// P17.1: every two commands of these kinds, clients and keys, each way round: Deps has those that meet, as the words of layer 6 tell.
func TestEveryTwo(t *testing.T) {
	var all []api.Cmd
	for _, kind := range []int{0, 1, 2, 3, 4, 5, 6, 7, -1} {
		for _, client := range []int{1, 2, 0, -1} {
			for _, key := range []string{"", "a", "ab", "b", "\xce", "\u03b1"} {
				all = append(all, command(kind, client, key))
			}
		}
	}
	x, y := index.New(), &plain{}
	for k, c := range all {
		one := made(held{id(1, 4), c, 6})
		for _, d := range all {
			wantOne(t, one, d, meet(c, d))
		}
		x.Put(id(k%7, k), c, k)
		y.put(id(k%7, k), c, k)
	}
	for k, c := range all {
		l, seq := y.met(c, id(k%7, k))
		wantMetBut(t, x, c, id(k%7, k), seq, l...)
		if slices.Contains(l, id(k%7, k)) {
			t.Fatalf("%v is left out", id(k%7, k))
		}
	}
}

package index_test

import (
	"fmt"
	"math"
	"slices"
	"testing"

	"stonecrop/api"
	"stonecrop/index"
)

const (
	most  = math.MaxInt
	least = math.MinInt
)

func id(r, n int) api.Id { return api.Id{R: r, N: n} }

// none is an id that no test puts.
var none = id(-99, -99)

func command(kind, client int, key string) api.Cmd {
	return api.Cmd{Kind: kind, Client: client, Seq: 1, Key: key}
}

func get(client int, key string) api.Cmd    { return command(1, client, key) }
func put(client int, key string) api.Cmd    { return command(2, client, key) }
func remove(client int, key string) api.Cmd { return command(3, client, key) }
func cas(client int, key string) api.Cmd    { return command(4, client, key) }
func find(client int, key string) api.Cmd   { return command(5, client, key) }

var (
	noop    = api.Cmd{}
	barrier = api.Cmd{Kind: 6}
)

// held is one call of Put.
type held struct {
	id  api.Id
	c   api.Cmd
	seq int
}

// made is an index behind these calls.
func made(l ...held) *index.Index {
	x := index.New()
	for _, h := range l {
		x.Put(h.id, h.c, h.seq)
	}
	return x
}

func short(c api.Cmd) string { return fmt.Sprintf("%d of %d: %.60q", c.Kind, c.Client, c.Key) }

func want[T comparable](t *testing.T, what string, got, want T) {
	t.Helper()
	if got != want {
		t.Fatalf("%s: %#v, want %#v", what, got, want)
	}
}

func wantIds(t *testing.T, what string, got []api.Id, want ...api.Id) {
	t.Helper()
	if !slices.Equal(got, want) {
		t.Fatalf("%s: %.400s, want %.400s", what, fmt.Sprint(got), fmt.Sprint(want))
	}
}

// wantMet is that c meets these ids, and what its number is, by that.
func wantMet(t *testing.T, x *index.Index, c api.Cmd, seq int, l ...api.Id) {
	t.Helper()
	wantMetBut(t, x, c, none, seq, l...)
}

func wantMetBut(t *testing.T, x *index.Index, c api.Cmd, but api.Id, seq int, l ...api.Id) {
	t.Helper()
	wantIds(t, fmt.Sprintf("Deps of %s but %v", short(c), but), x.Deps(c, but), l...)
	want(t, fmt.Sprintf("Seq of %s but %v", short(c), but), x.Seq(c, but), seq)
}

// inOrder are ids of any numbers, in their order: by N, then by R.
func inOrder() []api.Id {
	return []api.Id{
		id(least, least), id(0, least), id(most, least),
		id(5, least+1),
		id(most, -1<<32),
		id(-1, -1), id(0, -1), id(1, -1),
		id(least, 0), id(-1, 0), id(0, 0), id(1, 0), id(6, 0), id(7, 0), id(most, 0),
		id(0, 1), id(2, 1), id(6, 1),
		id(1, 2),
		id(0, 3),
		id(0, 1<<31), id(1<<32, 1<<31),
		id(0, 1<<32), id(1, 1<<32),
		id(0, 1<<40), id(6, 1<<40), id(0, 1<<40+1),
		id(3, most-1),
		id(least, most), id(0, most), id(most-1, most), id(most, most),
	}
}

// orders are ways to go through so many things: forward, backward, from the middle on, and some by a stride.
func orders(count int) [][]int {
	var forward, middle []int
	for k := range count {
		forward = append(forward, k)
		middle = append(middle, (k+count/2)%count)
	}
	backward := slices.Clone(forward)
	slices.Reverse(backward)
	all := [][]int{forward, backward, middle}
	for _, stride := range []int{7, 11, 13} {
		var l []int
		for begin := range stride {
			for k := begin; k < count; k += stride {
				l = append(l, k)
			}
		}
		all = append(all, l)
	}
	return all
}

// keys are those that begin with one another or don't, are long, or are none.
func keys() []string {
	return []string{
		"", "a", "aa", "ab", "aba", "b", "ba", "A", "a ", "\x00", "a\x00",
		"\u03b1", "\xce", "\xb1", "\xce\xb1\xb2", "\xff", "\xff\xff", "a\xff", "\xef\xbf\xbd", "\xed\xa0\x80",
		"0123456789abcdef0123456789abcdef", "0123456789abcdef0123456789abcdefg",
	}
}

// kinds are those that there are, and some that there are none of.
func kinds() []int { return []int{0, 1, 2, 3, 4, 5, 6, -1, 7, 8, 256, 1 << 32, least, most} }

// clients are right ones, and others.
func clients() []int {
	return []int{1, 2, 3, 1 << 20, 0, -1, -2, 1<<20 + 1, 1 << 32, 1<<32 + 1, least, most}
}

// seqs are numbers that an instance may be told to have; they rise.
func seqs() []int {
	return []int{least, least + 1, -1 << 40, -2, -1, 0, 1, 2, 3, 1 << 31, 1<<32 - 1, 1 << 40, most - 2, most - 1}
}

func writes(c api.Cmd) bool { return slices.Contains([]int{2, 3, 4}, c.Kind) }

// opens tells whether s begins with with, byte by byte.
func opens(s, with string) bool {
	for at := range len(with) {
		if at >= len(s) || s[at] != with[at] {
			return false
		}
	}
	return true
}

// meet is the words of layer 6 once more.
func meet(a, b api.Cmd) bool {
	if a.Kind == 0 || b.Kind == 0 {
		return false
	}
	if a.Kind == 6 || b.Kind == 6 || a.Client == b.Client {
		return true
	}
	if !writes(a) && !writes(b) {
		return false
	}
	return a.Key == b.Key || a.Kind == 5 && opens(b.Key, a.Key) || b.Kind == 5 && opens(a.Key, b.Key)
}

func ahead(a, b api.Id) bool { return a.N < b.N || a.N == b.N && a.R < b.R }

// plain is an index once more, by other means: a list in the order of ids, which is asked from end to end.
type plain struct{ l []held }

func (p *plain) drop(i api.Id) {
	p.l = slices.DeleteFunc(slices.Clone(p.l), func(h held) bool { return h.id.R == i.R && h.id.N == i.N })
}

func (p *plain) put(i api.Id, c api.Cmd, seq int) {
	p.drop(i)
	at := 0
	for at < len(p.l) && ahead(p.l[at].id, i) {
		at++
	}
	p.l = slices.Insert(p.l, at, held{i, c, seq})
}

func (p *plain) met(c api.Cmd, but api.Id) (l []api.Id, seq int) {
	seq = 1
	for _, h := range p.l {
		if h.id.R == but.R && h.id.N == but.N || !meet(h.c, c) {
			continue
		}
		l = append(l, h.id)
		if h.seq >= seq {
			seq = h.seq + 1
		}
	}
	return l, seq
}

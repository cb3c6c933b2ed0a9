package index_test

import (
	"fmt"
	"math/rand"
	"slices"
	"testing"

	"stonecrop/api"
	"stonecrop/index"
)

// pair is an index and a plain one, of which all is done alike.
type pair struct {
	x    *index.Index
	p    *plain
	what string
}

func newPair() *pair { return &pair{x: index.New(), p: &plain{}, what: "New"} }

func (pr *pair) put(i api.Id, c api.Cmd, seq int) {
	pr.what = fmt.Sprintf("Put(%v, %s, %d)", i, short(c), seq)
	pr.x.Put(i, c, seq)
	pr.p.put(i, c, seq)
}

func (pr *pair) drop(i api.Id) {
	pr.what = fmt.Sprintf("Drop(%v)", i)
	pr.x.Drop(i)
	pr.p.drop(i)
}

// ask holds all that an index says of one command, and writes over what it answered, as whoever asked may do.
func (pr *pair) ask(t *testing.T, c api.Cmd, but api.Id) {
	t.Helper()
	l, seq := pr.p.met(c, but)
	got := pr.x.Deps(c, but)
	wantIds(t, fmt.Sprintf("Deps of %s but %v behind %s", short(c), but, pr.what), got, l...)
	over(got)
	want(t, fmt.Sprintf("Seq of %s but %v behind %s", short(c), but, pr.what), pr.x.Seq(c, but), seq)
	want(t, "Len behind "+pr.what, pr.x.Len(), len(pr.p.l))
}

// world is what a walk draws from.
type world struct {
	ids            []api.Id
	kinds, clients []int
	keys           []string
	seqs           []int
}

func worlds() []world {
	var rows, small []api.Id
	for k := range 60 {
		rows = append(rows, id(k%7, k/7))
	}
	small = rows[:6]
	there, writers, numbers := kinds()[:7], []int{1, 2, 5}, []int{0, 1, 2, 3, 4, 5, 6, 7, 8}
	return []world{
		{small, there, []int{1, 2}, keys()[1:5], numbers},
		{rows, there, []int{1, 2, 3, 4, 5, 6, 7, 8}, keys()[:7], numbers},
		{rows, writers, []int{1, 2, 3, 4, 5, 6, 7, 8, 9, 10, 11, 12}, keys()[:5], numbers},
		{inOrder(), kinds(), clients(), keys(), seqs()},
		{inOrder(), there, []int{1, 2, 3}, keys(), seqs()},
		{rows, kinds(), clients(), keys()[10:], numbers},
	}
}

func one[T any](r *rand.Rand, l []T) T { return l[r.Intn(len(l))] }

func (wd world) command(r *rand.Rand) api.Cmd {
	return api.Cmd{Kind: one(r, wd.kinds), Client: one(r, wd.clients), Seq: r.Intn(3), Key: one(r, wd.keys), Val: one(r, wd.keys), Rev: r.Intn(3)}
}

// P17.1, P17.2: walks of all calls in any order, with few ids and many, and commands of which many meet, or few.
func TestWalks(t *testing.T) {
	r := rand.New(rand.NewSource(17))
	for walk := range 480 {
		wd, pr, puts := worlds()[walk%6], newPair(), 8+r.Intn(12)
		for range 150 {
			if r.Intn(20) < puts {
				pr.put(one(r, wd.ids), wd.command(r), one(r, wd.seqs))
			} else {
				pr.drop(one(r, wd.ids))
			}
			pr.ask(t, wd.command(r), one(r, wd.ids))
			pr.ask(t, wd.command(r), none)
		}
		for _, i := range wd.ids {
			pr.drop(i)
			pr.ask(t, barrier, none)
		}
		want(t, "Len", pr.x.Len(), 0)
	}
}

// P17.1, P17.2: long walks as a replica's: numbers rise, what is asked is put next, now and then one is dropped or put anew.
func TestLongWalks(t *testing.T) {
	r := rand.New(rand.NewSource(1017))
	for _, clients := range []int{2, 40, 1000} {
		pr := newPair()
		for k := range 1200 {
			i := id(r.Intn(5), k)
			c := command(1+r.Intn(5), 1+r.Intn(clients), fmt.Sprintf("%c%d", 'a'+r.Intn(4), r.Intn(30)))
			switch {
			case k%200 == 150:
				c = barrier
			case k%50 == 25:
				c = noop
			case c.Kind == api.KFind:
				c.Key = c.Key[:r.Intn(len(c.Key))]
			}
			pr.ask(t, c, i)
			pr.put(i, c, pr.x.Seq(c, i))
			if r.Intn(3) == 0 && len(pr.p.l) > 0 {
				pr.drop(one(r, pr.p.l).id)
			}
			if r.Intn(10) == 0 && len(pr.p.l) > 0 {
				pr.put(one(r, pr.p.l).id, c, r.Intn(k+1))
			}
			pr.ask(t, c, none)
		}
	}
}

// P17.2: every order in which six are put, one of them anew: the answers are the same.
func TestEveryOrder(t *testing.T) {
	l := []held{{id(0, 2), put(1, "a"), 3}, {id(1, 1), find(2, "a"), 3}, {id(0, 1), put(3, "ab"), 5}, {id(2, 0), barrier, 1}, {id(0, 5), get(1, "b"), 0}, {id(1, 4), noop, 9}}
	all := []api.Cmd{put(1, "a"), put(9, "ab"), find(9, ""), get(9, "a"), barrier, noop, put(2, "q")}
	every(l, func(order []held) {
		for k, h := range order {
			x, y := made(order...), made(l...)
			x.Put(h.id, order[(k+1)%6].c, 7)
			y.Put(h.id, order[(k+1)%6].c, 7)
			for _, c := range all {
				wantMet(t, x, c, y.Seq(c, none), y.Deps(c, none)...)
			}
		}
	})
}

// every calls do with each order of a list.
func every(l []held, do func(order []held)) {
	var grow func(order, left []held)
	grow = func(order, left []held) {
		if len(left) == 0 {
			do(order)
		}
		for k := range left {
			grow(append(slices.Clone(order), left[k]), slices.Concat(left[:k], left[k+1:]))
		}
	}
	grow(nil, l)
}

// P1, P17.1: bytes as calls: whatever they are, an index and a plain one say the same.
func FuzzCalls(f *testing.F) {
	f.Add("p\x01\x25ap\x02\x25abd\x01\x00")
	f.Add("p\x01\x06p\x02\x00p\x01\x15ad\x02\x00")
	f.Add("p\x11\x82\xffp\x11\x25\xffp\x11\x35")
	f.Fuzz(func(t *testing.T, calls string) {
		pr := newPair()
		for at := 0; at+4 < len(calls) && at < 600; at += 5 {
			i := id(int(calls[at+1]%4), int(calls[at+1]>>2%8))
			kind, client := int(calls[at+2]%8), int(calls[at+2]>>3)-4
			key := calls[at+3 : at+3+int(calls[at+4]%3)%(len(calls)-at-2)]
			c := command(kind, client, key)
			pr.ask(t, c, i)
			if calls[at]%4 == 0 {
				pr.drop(i)
			} else {
				pr.put(i, c, int(int8(calls[at])))
			}
			pr.ask(t, c, none)
			pr.ask(t, barrier, i)
		}
	})
}

package order_test

import (
	"fmt"
	"math/rand"
	"slices"
	"testing"

	"stonecrop/api"
	"stonecrop/order"
)

// P19.1, P19.2: drawn records, few and many, held against the chapter's words.
func TestDrawn(t *testing.T) {
	r := rand.New(rand.NewSource(19))
	for range 4000 {
		count := 1 + r.Intn(9)
		wantPlain(t, drawn(r, count, r.Intn(3*count), 1+r.Intn(7), 1+r.Intn(4)))
	}
	for range 60 {
		count := 20 + r.Intn(50)
		wantPlain(t, drawn(r, count, r.Intn(2*count), 1+r.Intn(7), 1+r.Intn(20)))
	}
}

// P19.1, P19.2: drawn records to which something is done: a walk, one thing behind the other, and now and then one is undone.
func TestWalks(t *testing.T) {
	r := rand.New(rand.NewSource(91))
	done := map[api.Errno]int{}
	for range 120 {
		count := 2 + r.Intn(9)
		l := drawn(r, count, r.Intn(3*count), 1+r.Intn(4), 3)
		for range 25 {
			k := r.Intn(len(l))
			was := l[k]
			spoil(r, l, k)
			wantPlain(t, shuffled(r, l))
			done[read(l).fault()]++
			if r.Intn(3) > 0 {
				l[k] = was
			}
		}
	}
	for _, e := range []api.Errno{api.OK, api.ErrForm, api.ErrThere, api.ErrNone} {
		want(t, fmt.Sprint("is there any of ", e), done[e] > 100, true)
	}
}

// spoil does one thing to one record, which may make a fault of it, or end one.
func spoil(r *rand.Rand, l []api.Rec, k int) {
	a := &l[k].Attr
	other := l[r.Intn(len(l))].Id
	switch r.Intn(9) {
	case 0:
		a.Deps = put(slices.Clone(a.Deps), other)
	case 1:
		a.Deps = put(slices.Clone(a.Deps), id(r.Intn(3), r.Intn(12)))
	case 2:
		a.Deps = slices.Clone(a.Deps)[:len(a.Deps)/2]
	case 3:
		a.Deps = append(slices.Clone(a.Deps), other, id(r.Intn(9)-1, r.Intn(12)-1))
	case 4:
		a.Tag = r.Intn(4)
	case 5:
		a.Seq = r.Intn(5) - 1
	case 6:
		l[k].Id = other
	case 7:
		l[k].Id = id(r.Intn(8)-1, r.Intn(12)-1)
	default:
		l[k].State = 3 - r.Intn(2)
	}
}

// planted are great lists whose components are known: rings with edges across, each on some that were made ahead of it.
type planted struct {
	l     []api.Rec
	of    map[api.Id]int
	parts [][]api.Rec
}

func plant(r *rand.Rand, count, greatest, hang int) *planted {
	p := &planted{of: map[api.Id]int{}}
	l := drawn(r, count, 0, 7, 50)
	for at := 0; at < count; {
		size := min(1+r.Intn(greatest), count-at)
		part := l[at : at+size]
		for k := range part {
			deps := &part[k].Attr.Deps
			p.of[part[k].Id] = len(p.parts)
			for _, i := range []api.Id{part[(k+1)%size].Id, part[r.Intn(size)].Id} {
				if i != part[k].Id {
					*deps = put(*deps, i)
				}
			}
			for range r.Intn(hang + 1) {
				if at > 0 {
					*deps = put(*deps, l[r.Intn(at)].Id)
				}
			}
		}
		p.parts = append(p.parts, part)
		at += size
	}
	p.l = shuffled(r, l)
	return p
}

// word is a text by which records of one component sort as they stand.
func word(r api.Rec) string {
	return fmt.Sprintf("%d %015d %015d %d", r.Attr.Tag, r.Attr.Seq, r.Id.N, r.Id.R)
}

// row is the order, told by how many components each still hangs on.
func (p *planted) row() []api.Id {
	left, behind := make([]int, len(p.parts)), make([][]int, len(p.parts))
	var open []api.Id // the least Ids of those that have not come, in their order
	for c, part := range p.parts {
		slices.SortFunc(part, func(a, b api.Rec) int { return cmpText(word(a), word(b)) })
		names := idsOf(part)
		slices.SortFunc(names, byNumbers)
		open = append(open, names[0])
		for _, r := range part {
			for _, i := range r.Attr.Deps {
				if d := p.of[i]; d != c {
					left[c]++
					behind[d] = append(behind[d], c)
				}
			}
		}
	}
	slices.SortFunc(open, byNumbers)
	var out []api.Id
	for len(open) > 0 {
		at := slices.IndexFunc(open, func(i api.Id) bool { return left[p.of[i]] == 0 })
		c := p.of[open[at]]
		open = slices.Delete(open, at, at+1)
		out = append(out, idsOf(p.parts[c])...)
		for _, d := range behind[c] {
			left[d]--
		}
	}
	return out
}

func byNumbers(a, b api.Id) int { return slices.Compare([]int{a.N, a.R}, []int{b.N, b.R}) }

func cmpText(a, b string) int {
	switch {
	case a < b:
		return -1
	case a > b:
		return 1
	}
	return 0
}

// led are the Ids that one leads to, told by rounds over all records till nothing is new.
func (p *planted) led(from api.Id) []api.Id {
	in := map[api.Id]int{from: 1}
	for before := 0; before < len(in); {
		before = len(in)
		for _, r := range p.l {
			for _, i := range r.Attr.Deps {
				if in[r.Id] == 1 {
					in[i] = 1
				}
			}
		}
	}
	var l []api.Id
	for i := range in {
		l = append(l, i)
	}
	slices.SortFunc(l, byNumbers)
	return l
}

// P19.1, P19.2: great lists, of which the order is known ahead.
func TestPlanted(t *testing.T) {
	r := rand.New(rand.NewSource(1919))
	for _, x := range []struct{ count, greatest, hang int }{
		{2000, 1, 1}, {2000, 1, 4}, {2000, 3, 1}, {2000, 40, 1}, {2000, 1999, 2}, {10000, 5, 0}, {10000, 9, 1}, {10000, 30, 3}, {10000, 4000, 1},
	} {
		p := plant(r, x.count, x.greatest, x.hang)
		wantOrder(t, p.l, p.row()...)
		for range 4 {
			from := p.l[r.Intn(x.count)].Id
			wantIds(t, fmt.Sprint("Closed from ", from), closedIds(p.l, from), p.led(from))
		}
	}
}

// closedIds are the Ids of those that one leads to; none that isn't there is among them.
func closedIds(l []api.Rec, i api.Id) []api.Id {
	in, out := order.Closed(l, i)
	if len(out) > 0 {
		return nil
	}
	return idsOf(in)
}

// P19.1 to P19.3, P1: any records that bytes tell.
func FuzzCalls(f *testing.F) {
	f.Add([]byte{0x11, 0x23, 1, 0x19, 0x19, 0x13, 1, 0x11})
	f.Add([]byte{0x11, 0x22, 2, 0x19, 0x21, 0x19, 0x23, 1, 0x21, 0x21, 0xf3, 0, 0x29, 0x43, 3, 1, 2, 3})
	f.Fuzz(func(t *testing.T, b []byte) {
		var l []api.Rec
		for at := 0; at+2 < len(b) && len(l) < 14; {
			r := api.Rec{Id: id(int(b[at]%8), int(b[at]/8)), State: 3, Attr: api.Attr{Tag: 2}}
			if b[at+1]%4 == 3 {
				r.Attr.Tag, r.Attr.Seq = 1, int(b[at+1]/16)
			}
			if b[at+1] == 0 {
				r.State = 2
			}
			count := min(int(b[at+2]%8), len(b)-at-3)
			for _, d := range b[at+3 : at+3+count] {
				r.Attr.Deps = append(r.Attr.Deps, id(int(d%8), int(d/8)))
				if b[at+2] < 200 {
					slices.SortFunc(r.Attr.Deps, byNumbers)
					r.Attr.Deps = slices.Compact(r.Attr.Deps)
				}
			}
			l = append(l, r)
			at += 3 + count
		}
		given := roomy(l)
		before := image(given)
		wantPlain(t, given)
		for _, r := range l {
			order.Closed(given, r.Id)
		}
		want(t, "what was handed in", image(given), before)
	})
}

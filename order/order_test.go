package order_test

import (
	"runtime/debug"
	"slices"
	"strings"
	"testing"

	"stonecrop/api"
	"stonecrop/order"
)

// P19.1: the example of the document.
func TestExample(t *testing.T) {
	l := tell("0.1=2 1.1", "1.1=1 0.1")
	wantOrder(t, l, id(1, 1), id(0, 1))
	wantWithin(t, l, id(1, 1), id(0, 1))
	wantClosed(t, l, id(0, 1), named("0.1 1.1"), nil)
	wantClosed(t, l, id(1, 1), named("0.1 1.1"), nil)
}

// P19.1: no records, and one.
func TestFew(t *testing.T) {
	wantOrder(t, nil)
	wantOrder(t, []api.Rec{})
	for _, i := range inOrder() {
		for _, a := range []api.Attr{{Seq: 1, Tag: 1}, {Seq: limit, Tag: 1}, {Tag: 2}, {Deps: []api.Id{}, Tag: 2}, {Deps: []api.Id{}, Seq: 7, Tag: 1}} {
			wantOrder(t, []api.Rec{{Id: i, State: 3, Attr: a}}, i)
		}
	}
}

// P19.1: records of any right command and ballots: neither tells anything of the order.
func TestCommandsAndBallots(t *testing.T) {
	cmds := []api.Cmd{
		{}, {Kind: 6}, {Kind: 1, Client: 1, Seq: 1, Key: "a"}, {Kind: 2, Client: 1 << 20, Seq: limit, Key: strings.Repeat("k", 32), Val: strings.Repeat("v", 1024)},
		{Kind: 3, Client: 2, Seq: 1, Key: "a"}, {Kind: 4, Client: 3, Seq: 2, Key: "b", Val: "v", Rev: limit}, {Kind: 5, Client: 4, Seq: 9},
	}
	ballots := []api.Ballot{{}, {By: 6}, {Round: 1}, {Round: 3, By: 2}, {Round: limit, By: 6}}
	for k := range cmds {
		for at, bal := range ballots {
			l := tell("1.5=4 0.5", "0.5=9 1.5", "2.4 0.5", "0.2")
			for j := range l {
				l[j].Cmd, l[j].Bal, l[j].Took = cmds[(j+k)%len(cmds)], bal, ballots[j%(at+1)]
			}
			wantOrder(t, l, named("0.2 1.5 0.5 2.4")...)
		}
	}
}

// rising are records with these Ids, each on what on tells, with Seqs that fall.
func rising(names []api.Id, on func(k int) []api.Id) []api.Rec {
	var l []api.Rec
	for k, i := range names {
		l = append(l, api.Rec{Id: i, State: 3, Attr: api.Attr{Deps: on(k), Seq: 1 + len(names) - k, Tag: 1}})
	}
	return l
}

func backward[T any](l []T) []T {
	l = slices.Clone(l)
	slices.Reverse(l)
	return l
}

// P19.1: records side by side come by their Ids, whatever their places and their Seqs; so do rows, which come from their end.
func TestRows(t *testing.T) {
	names := inOrder()
	last := len(names) - 1
	side := rising(names, func(int) []api.Id { return nil })
	wantOrder(t, side, names...)
	wantOrder(t, backward(side), names...)
	up := rising(names, func(k int) []api.Id { return names[min(k+1, last):last][:min(1, last-min(k+1, last))] })
	up[last-1].Attr.Deps = names[last:]
	wantOrder(t, up, backward(names)...)
	wantOrder(t, backward(up), backward(names)...)
	down := rising(names, func(k int) []api.Id { return names[max(0, k-1):k] })
	wantOrder(t, down, names...)
	wantOrder(t, backward(down), names...)
}

// P19.1: rings, in either direction, with Seqs that fall, and by names.
func TestRings(t *testing.T) {
	names := inOrder()
	for count := 2; count <= len(names); count++ {
		ring := rising(names[:count], func(k int) []api.Id { return []api.Id{names[(k+1)%count]} })
		wantOrder(t, ring, backward(names[:count])...)
		turned := rising(names[:count], func(k int) []api.Id { return []api.Id{names[(k+count-1)%count]} })
		wantOrder(t, turned, backward(names[:count])...)
		for k := range ring {
			ring[k].Attr.Tag, ring[k].Attr.Seq = 2, 0
		}
		wantOrder(t, ring, names[:count]...)
		wantOrder(t, backward(ring), names[:count]...)
	}
	all := rising(names, func(k int) []api.Id { return slices.Delete(slices.Clone(names), k, k+1) })
	wantOrder(t, all, backward(names)...)
}

// P19.1: rings that hang on rings, by one record or by more.
func TestRingsOnRings(t *testing.T) {
	wantRow(t, "2.1 3.1 0.1 1.1", "0.1=1 1.1", "1.1=2 0.1 2.1", "2.1=8 3.1", "3.1=9 2.1")
	wantRow(t, "0.1 1.1 2.1 3.1", "0.1=8 1.1", "1.1=9 0.1", "2.1=1 3.1", "3.1=2 1.1 2.1")
	wantRow(t, "2.1 0.2 0.1 1.1 3.1 4.1", "0.1 1.1 0.2", "1.1 0.1 2.1", "2.1 0.2", "0.2 2.1", "3.1 4.1", "4.1 0.1 3.1")
	wantRow(t, "0.5 1.5 0.4 1.4 0.3 1.3", "0.3 1.3 0.4", "1.3 0.3", "0.4 1.4", "1.4 0.4 1.5", "0.5 1.5", "1.5 0.5")
	wantRow(t, "6.1 5.2 4.3 0.1 1.2 2.3", "0.1=3 2.3", "1.2=4 0.1 6.1", "2.3=5 1.2", "6.1=1 4.3", "5.2=2 6.1", "4.3=3 5.2")
	// Two rings that share a record are one.
	wantRow(t, "0.2 1.2 0.1 1.1 0.3", "0.1=3 1.1", "1.1=4 0.1 0.2", "0.2=1 1.2", "1.2=2 0.1 0.2", "0.3=1 0.1")
}

// P19.1: one that all hang on, and one that hangs on all, whatever its Id.
func TestMiddle(t *testing.T) {
	names := inOrder()
	for middle := range names {
		others := slices.Delete(slices.Clone(names), middle, middle+1)
		on := rising(names, func(k int) []api.Id {
			if k == middle {
				return nil
			}
			return names[middle : middle+1]
		})
		wantOrder(t, on, append([]api.Id{names[middle]}, others...)...)
		of := rising(names, func(k int) []api.Id {
			if k == middle {
				return others
			}
			return nil
		})
		wantOrder(t, of, append(slices.Clone(others), names[middle])...)
	}
}

// P19.1: of those that may come next the one with the least Id of all its records comes, also if it became free last.
func TestLeastComes(t *testing.T) {
	wantRow(t, "1.1 2.1 3.1 0.1 0.2", "0.1=1 3.1", "1.1=9", "2.1=8", "3.1=7", "0.2=1")
	wantRow(t, "1.1 0.2 0.1", "0.1 0.2", "1.1", "0.2")
	wantRow(t, "0.2 0.1 1.1", "0.1 0.2", "1.1 0.2", "0.2")
	wantRow(t, "2.1 3.1 1.1 0.1 4.1", "0.1=1 1.1", "1.1=2 3.1", "2.1=3", "3.1=4", "4.1=5")
	// A component stands by its least Id, and not by the one that is executed first, nor by the one that others lead to.
	wantRow(t, "6.9 0.1 0.2", "0.1=5 6.9", "6.9=4 0.1", "0.2=1")
	wantRow(t, "1.1 1.9 0.5 0.6", "1.1=5 1.9", "1.9=6 1.1", "0.5=1", "0.6=1 1.9")
	wantRow(t, "0.9 1.1 1.8 0.4 0.6 0.3", "0.6=1 0.9", "1.1=5 0.9", "0.9=4 1.1", "0.3=1 0.6", "0.4=7 1.8", "1.8=6 0.4")
	// What hangs on several comes behind the last of them.
	wantRow(t, "1.1 2.1 3.1 0.1 4.1", "0.1=9 2.1 3.1", "1.1=1", "2.1=1", "3.1=1", "4.1=1")
}

// P19.1: of Ids of one R and of many: N comes ahead of R, in numbers and not in digits.
func TestIds(t *testing.T) {
	wantRow(t, "3.2 3.9 3.10 3.100 3.1099511627776", "3.10", "3.9", "3.100", "3.1099511627776", "3.2")
	wantRow(t, "0.1 6.1 1.2 5.2 0.3 2.30", "5.2=1", "0.3=2", "2.30=3", "6.1=4", "1.2=5", "0.1=6")
	wantRow(t, "6.1 0.3 5.2 1.2", "5.2=4 0.3", "0.3=2 6.1", "6.1=1 5.2", "1.2=3 5.2 0.3")
	wantRow(t, "6.1 5.2 0.3 1.2", "5.2 0.3", "0.3 6.1", "6.1 5.2", "1.2 5.2 0.3")
}

// ringOf are records that all lead to one another, along one ring as they are told.
func ringOf(texts ...string) []api.Rec {
	l := tell(texts...)
	for k := range l {
		l[k].Attr.Deps = []api.Id{l[(k+1)%len(l)].Id}
	}
	return l
}

// P19.1: within a component those of TagSeq come by their Seq, then by their Ids; behind them those of TagId, by their Ids.
func TestInsideOfComponents(t *testing.T) {
	for _, x := range []struct{ row, texts string }{
		{"1.1 0.1", "0.1=2,1.1=1"},
		{"0.1 1.1", "0.1=1,1.1=2"},
		{"0.1 1.1", "1.1=5,0.1=5"},
		{"0.1 1.1", "1.1,0.1"},
		{"1.1 0.1", "1.1=1099511627776,0.1"},
		{"0.1 1.1", "0.1=1,1.1"},
		{"6.9 0.1", "0.1,6.9=1"},
		{"6.9 5.9 0.1 0.2", "0.1,6.9=1,0.2,5.9=2"},
		{"0.3 0.2 0.1", "0.1=1099511627776,0.2=1099511627775,0.3=1"},
		{"0.1 1.1 6.1 0.2 3.2 5.10", "5.10=3,0.2=3,6.1=3,3.2=3,0.1=3,1.1=3"},
		{"0.1 1.1 6.1 0.2 3.2 5.10", "5.10,0.2,6.1,3.2,0.1,1.1"},
		{"5.10 1.1 0.2 3.2 0.1 6.1", "0.2=3,5.10=2,6.1,0.1,3.2=3,1.1=3"},
		{"0.9 1.9 0.8 0.7 1.7 0.1 1.1", "0.1,0.7=30,1.7=30,1.9=4,1.1,0.9=4,0.8=5"},
		{"0.5 0.4 0.3", "0.3=100,0.4=20,0.5=3"},
	} {
		l := ringOf(strings.Split(x.texts, ",")...)
		wantOrder(t, l, named(x.row)...)
		wantOrder(t, backward(l), named(x.row)...)
		wantWithin(t, l, named(x.row)...)
	}
}

// P19.1: neither tag nor Seq tells anything between two components.
func TestBetweenComponents(t *testing.T) {
	wantRow(t, "0.1 1.1 0.2", "0.2=1", "1.1=2", "0.1")
	wantRow(t, "0.1 1.1 0.2 1.2", "0.1 1.1", "1.1 0.1", "0.2=1 1.2", "1.2=2 0.2")
	wantRow(t, "1.1 0.1", "0.1=1 1.1", "1.1")
	wantRow(t, "1.1 0.1", "0.1=1 1.1", "1.1=1099511627776")
	wantRow(t, "1.2 0.2 1.1 0.1", "0.1=2 1.1 0.2", "1.1=1 0.1", "0.2 1.2", "1.2=9 0.2")
}

// P19.1: a record on as many as there may be.
func TestMostDeps(t *testing.T) {
	var names []api.Id
	for k := range 4096 {
		names = append(names, id(k%7, k/7))
	}
	l := rising(names, func(int) []api.Id { return nil })
	l = append(l, api.Rec{Id: id(6, 9999), State: 3, Attr: api.Attr{Deps: names, Tag: 2}})
	wantOrder(t, l, append(slices.Clone(names), id(6, 9999))...)
	wantClosed(t, l, id(6, 9999), append(slices.Clone(names), id(6, 9999)), nil)
	l = append(l, api.Rec{Id: id(0, 5000), State: 3, Attr: api.Attr{Tag: 2}})
	l[4096].Attr.Deps = append(slices.Clone(names), id(0, 5000))
	wantRefused(t, "one more", api.ErrForm, l)
	wantClosed(t, l, id(6, 9999), slices.Concat(names, named("0.5000 6.9999")), nil)
}

// P19.1: all graphs of up to three records, and those of four without an edge to oneself, of all tags.
func TestAllSmallGraphs(t *testing.T) {
	names := named("0.1 2.1 1.2 0.3")
	for count := range 5 {
		for drawn := range 1 << (count * (count - 1)) {
			for tags := range 1 << count {
				l := make([]api.Rec, count)
				for k := range l {
					l[k] = api.Rec{Id: names[k], State: 3, Attr: api.Attr{Tag: 2}}
					if tags>>k&1 == 1 {
						l[k].Attr.Tag, l[k].Attr.Seq = 1, 1+(count-k)/2
					}
					for j, bit := 0, 0; j < count; j++ {
						if j == k {
							continue
						}
						if drawn>>(k*(count-1)+bit)&1 == 1 {
							l[k].Attr.Deps = append(l[k].Attr.Deps, names[j])
						}
						bit++
					}
				}
				p := read(l)
				wantOrder(t, l, p.order()...)
				for _, i := range names[:count] {
					in, out := p.closed(i)
					wantClosed(t, l, i, in, out)
				}
			}
		}
	}
}

// small lets no call go deep while f runs: what goes into itself for each record ends there.
func small(f func()) {
	defer debug.SetMaxStack(debug.SetMaxStack(1 << 18))
	f()
}

// P19.1, P19.2: rows and rings of great depth, in either direction.
func TestDepth(t *testing.T) {
	const count = 100000
	names := make([]api.Id, count)
	for k := range names {
		names[k] = id(k%7, k/7)
	}
	up := rising(names, func(k int) []api.Id { return names[min(k+1, count-1):min(k+2, count)] })
	up[count-1].Attr.Deps = nil
	down := rising(names, func(k int) []api.Id { return names[max(k-1, 0):k] })
	ring := rising(names, func(k int) []api.Id { return []api.Id{names[(k+1)%count]} })
	lacking := rising(names, func(k int) []api.Id { return []api.Id{id((k+1)%7, (k+1)/7)} })
	small(func() {
		wantOrder(t, up, backward(names)...)
		wantOrder(t, down, names...)
		wantOrder(t, ring, backward(names)...)
		wantRefused(t, "the last one on another", api.ErrNone, lacking)
		for _, x := range []struct {
			l     []api.Rec
			from  int
			count int
			out   []api.Id
		}{
			{up, 0, count, nil}, {down, count - 1, count, nil}, {ring, 5, count, nil}, {up, count - 1, 1, nil}, {down, 0, 1, nil},
			{lacking, 0, count, []api.Id{id(count%7, count/7)}}, {lacking, count - 2, 2, []api.Id{id(count%7, count/7)}},
		} {
			in, out := order.Closed(x.l, names[x.from])
			want(t, "how many are led to", len(in), x.count)
			want(t, "rising", slices.IsSortedFunc(in, func(a, b api.Rec) int {
				return slices.Compare([]int{a.Id.N, a.Id.R}, []int{b.Id.N, b.Id.R})
			}), true)
			wantIds(t, "what isn't there", out, x.out)
		}
	})
}

package order_test

import (
	"slices"
	"testing"

	"stonecrop/api"
)

func tagged(i api.Id, tag, seq int) api.Rec {
	return api.Rec{Id: i, Attr: api.Attr{Tag: tag, Seq: seq}}
}

// P19.1: Within of none, and of one, whatever it is.
func TestWithinOfFew(t *testing.T) {
	wantWithin(t, nil)
	wantWithin(t, []api.Rec{})
	wantWithin(t, []api.Rec{{}}, api.Id{})
	for _, i := range append(wild(), inOrder()...) {
		for _, tag := range []int{least, -1, 0, 1, 2, 3, most} {
			wantWithin(t, []api.Rec{tagged(i, tag, 5)}, i)
		}
	}
}

// P19.1: tags come by their numbers, whatever their Ids and Seqs; TagSeq is ahead of TagId, and others where their numbers are.
func TestWithinOfTags(t *testing.T) {
	tags := []int{least, least + 1, -1 << 40, -1 << 32, -2, -1, 0, 1, 2, 3, 4, 256, 1<<32 + 1, 1<<32 + 2, 1 << 40, most - 1, most}
	for _, seq := range []func(k int) int{func(int) int { return 0 }, func(k int) int { return k }, func(k int) int { return -k }} {
		var l []api.Rec
		var wanted []api.Id
		for k, tag := range tags {
			l = append(l, tagged(id(0, len(tags)-k), tag, seq(k)))
			wanted = append(wanted, id(0, len(tags)-k))
		}
		wantWithin(t, l, wanted...)
		wantWithin(t, backward(l), wanted...)
		for at := range l {
			wantWithin(t, slices.Concat(l[at:], l[:at]), wanted...)
			for k := range at {
				wantWithin(t, []api.Rec{l[at], l[k]}, wanted[k], wanted[at])
			}
		}
	}
}

// P19.1: of TagSeq the Seq comes ahead of the Id, at all edges of numbers; of the same Seq the Id tells.
func TestWithinOfTagSeq(t *testing.T) {
	seqs := []int{least, least + 1, -1 << 40, -1 << 32, -1, 0, 1, 2, 1 << 31, 1 << 32, limit, limit + 1, most - 1, most}
	var l []api.Rec
	var wanted []api.Id
	for k, seq := range seqs {
		for _, i := range []api.Id{id(1, 50-k), id(2, 50-k)} {
			l = append(l, tagged(i, 1, seq))
			wanted = append(wanted, i)
		}
	}
	wantWithin(t, l, wanted...)
	wantWithin(t, backward(l), wanted...)
	for a := range l {
		for b := range a {
			wantWithin(t, []api.Rec{l[a], l[b]}, wanted[b], wanted[a])
			wantWithin(t, []api.Rec{l[b], l[a]}, wanted[b], wanted[a])
		}
	}
}

// P19.1: of other tags the Ids alone tell, whatever the Seqs: of TagId and of tags that there aren't.
func TestWithinOfOtherTags(t *testing.T) {
	names := wild()
	for _, tag := range []int{least, -1, 0, 2, 3, 257, 1<<32 + 1, most} {
		for _, seq := range []func(k int) int{func(int) int { return 0 }, func(k int) int { return -k }, func(k int) int { return k * 7 % 5 }, func(k int) int { return []int{most, least}[k%2] }} {
			var l []api.Rec
			for k, i := range names {
				l = append(l, tagged(i, tag, seq(k)))
			}
			wantWithin(t, l, names...)
			wantWithin(t, backward(l), names...)
			for at := range l {
				wantWithin(t, slices.Concat(l[at:], l[:at]), names...)
			}
		}
	}
}

// P19.1: the same of TagSeq, if the Seqs are.
func TestWithinOfOneSeq(t *testing.T) {
	names := wild()
	for _, seq := range []int{least, -1, 0, 1, limit, most} {
		var l []api.Rec
		for _, i := range names {
			l = append(l, tagged(i, 1, seq))
		}
		wantWithin(t, l, names...)
		wantWithin(t, backward(l), names...)
	}
}

// P19.1: several that stand alike stay as they came, each is there, and others stand between as their numbers tell.
func TestWithinOfTheSame(t *testing.T) {
	wantWithin(t, tell("0.1 0.2", "0.1", "0.1 0.3"), named("0.1 0.1 0.1")...)
	wantWithin(t, tell("0.2", "0.1 0.2", "0.2 0.1", "0.1", "0.3"), named("0.1 0.1 0.2 0.2 0.3")...)
	wantWithin(t, tell("0.1=1", "0.2=1", "0.1=1 0.2", "0.2=1"), named("0.1 0.1 0.2 0.2")...)
	wantWithin(t, tell("0.1=3", "0.2=2", "0.1=1"), named("0.1 0.2 0.1")...)
	wantWithin(t, tell("0.1", "0.2=9", "0.1=7", "0.2"), named("0.1 0.2 0.1 0.2")...)
	wantWithin(t, []api.Rec{tagged(id(0, 1), 2, 9), tagged(id(0, 1), 2, 3), tagged(id(0, 0), 2, 5)}, named("0.0 0.1 0.1")...)
	wantWithin(t, []api.Rec{tagged(id(0, 1), 0, 9), tagged(id(0, 1), -1, 3), tagged(id(0, 1), 0, 5)}, named("0.1 0.1 0.1")...)
	var many []api.Rec
	var wanted []api.Id
	for k := range 100 {
		many = append(many, tagged(id(0, k%4), 2, k))
		wanted = append(wanted, id(0, k/25))
	}
	wantWithin(t, many, wanted...)
}

// P19.1: nothing else of a record tells anything, whether it is right or not: State, ballots, command, Deps.
func TestWithinOfAnything(t *testing.T) {
	l := tell("0.3=1", "0.2=1", "1.2=2", "0.1", "2.1", "0.4")
	wanted := named("0.2 0.3 1.2 0.1 2.1 0.4")
	wantWithin(t, l, wanted...)
	for k := range l {
		for what, turn := range map[string]func(r *api.Rec){
			"State":  func(r *api.Rec) { r.State = 9 - 2*k },
			"Bal":    func(r *api.Rec) { r.Bal = api.Ballot{Round: 9 - 2*k, By: -k} },
			"Took":   func(r *api.Rec) { r.Took = api.Ballot{Round: 9 - 2*k, By: -k} },
			"Cmd":    func(r *api.Rec) { r.Cmd = api.Cmd{Kind: 9 - 2*k, Client: -k, Seq: 9 - k, Key: "\xff"[k%2:], Rev: -k} },
			"Deps":   func(r *api.Rec) { r.Attr.Deps = named("0.9 0.1 0.2 0.1 7.1")[:k] },
			"itself": func(r *api.Rec) { r.Attr.Deps = []api.Id{r.Id} },
		} {
			turned := slices.Clone(l)
			turn(&turned[k])
			wantIds(t, what, within(turned), wanted)
			wantWithin(t, turned, wanted...)
			wantWithin(t, backward(turned), wanted...)
		}
	}
}

package order_test

import (
	"math"
	"slices"
	"strings"
	"testing"

	"stonecrop/api"
	"stonecrop/rec"
)

// full is a right record of SCom that has something of all, on 0.1 and 1.1.
func full() api.Rec {
	return api.Rec{
		Id: id(1, 2), State: 3, Bal: api.Ballot{Round: 2, By: 1}, Took: api.Ballot{Round: 1, By: 4},
		Cmd:  api.Cmd{Kind: 4, Client: 1, Seq: 1, Key: "k", Val: "v", Rev: 3},
		Attr: api.Attr{Deps: named("0.1 1.1"), Seq: 4, Tag: 1},
	}
}

// turns make a record that is full one that isn't right, or not of SCom, each for one thing.
func turns() map[string]func(r *api.Rec) {
	deps := func(l ...api.Id) func(r *api.Rec) { return func(r *api.Rec) { r.Attr.Deps = l } }
	return map[string]func(r *api.Rec){
		"R below 0":         func(r *api.Rec) { r.Id.R = -1 },
		"R 7":               func(r *api.Rec) { r.Id.R = 7 },
		"the least R":       func(r *api.Rec) { r.Id.R = least },
		"R beyond 32 bits":  func(r *api.Rec) { r.Id.R = 1 << 32 },
		"N below 0":         func(r *api.Rec) { r.Id.N = -1 },
		"N beyond":          func(r *api.Rec) { r.Id.N = limit + 1 },
		"the greatest N":    func(r *api.Rec) { r.Id.N = math.MaxInt },
		"SPre":              func(r *api.Rec) { r.State = 1 },
		"SAcc":              func(r *api.Rec) { r.State = 2 },
		"SNone, with more":  func(r *api.Rec) { r.State = 0 },
		"a promise alone":   func(r *api.Rec) { *r = api.Rec{Id: r.Id, Bal: r.Bal} },
		"nothing":           func(r *api.Rec) { *r = api.Rec{} },
		"State 4":           func(r *api.Rec) { r.State = 4 },
		"State -1":          func(r *api.Rec) { r.State = -1 },
		"a State beyond":    func(r *api.Rec) { r.State = 1<<32 + 3 },
		"Bal's Round":       func(r *api.Rec) { r.Bal.Round = limit + 1 },
		"Bal's By":          func(r *api.Rec) { r.Bal.By = 7 },
		"Took's Round":      func(r *api.Rec) { r.Took.Round = -1 },
		"Took's By":         func(r *api.Rec) { r.Took.By = -1 },
		"Took behind Bal":   func(r *api.Rec) { r.Took = api.Ballot{Round: 2, By: 2} },
		"Kind 7":            func(r *api.Rec) { r.Cmd.Kind = 7 },
		"a Get with a Val":  func(r *api.Rec) { r.Cmd.Kind = 1 },
		"Client 0":          func(r *api.Rec) { r.Cmd.Client = 0 },
		"a Client beyond":   func(r *api.Rec) { r.Cmd.Client = 1<<20 + 1 },
		"the Cmd's Seq":     func(r *api.Rec) { r.Cmd.Seq = limit + 1 },
		"no Key":            func(r *api.Rec) { r.Cmd.Key = "" },
		"a Key that isn't":  func(r *api.Rec) { r.Cmd.Key = "k\x1f" },
		"a long Val":        func(r *api.Rec) { r.Cmd.Val = strings.Repeat("v", 1025) },
		"Rev below 0":       func(r *api.Rec) { r.Cmd.Rev = -1 },
		"no Tag":            func(r *api.Rec) { r.Attr.Tag = 0 },
		"Tag 3":             func(r *api.Rec) { r.Attr.Tag = 3 },
		"TagId with a Seq":  func(r *api.Rec) { r.Attr.Tag = 2 },
		"Seq 0":             func(r *api.Rec) { r.Attr.Seq = 0 },
		"Seq below 0":       func(r *api.Rec) { r.Attr.Seq = -1 },
		"Seq beyond":        func(r *api.Rec) { r.Attr.Seq = limit + 1 },
		"Deps that fall":    deps(named("1.1 0.1")...),
		"one of Deps twice": deps(named("0.1 0.1")...),
		"a wrong Id there":  deps(id(7, 0), id(0, 1)),
		"itself":            deps(named("0.1 1.1 1.2")...),
		"itself alone":      deps(id(1, 2)),
	}
}

// P19.1: one that isn't right, or not of SCom, at each place: ErrForm, whatever else there is.
func TestErrForm(t *testing.T) {
	others := tell("0.1=1", "1.1=2 0.1", "0.3", "5.3 0.1")
	wantOrder(t, append(slices.Clone(others), full()), named("0.1 1.1 1.2 0.3 5.3")...)
	for what, turn := range turns() {
		for at := range len(others) + 1 {
			r := full()
			turn(&r)
			l := slices.Insert(slices.Clone(others), at, r)
			wantRefused(t, what, api.ErrForm, l)
			wantRefused(t, what+", alone", api.ErrForm, []api.Rec{r})
			wantRefused(t, what+", twice", api.ErrForm, append(l, r))
			wantRefused(t, what+", beside a right one of its Id", api.ErrForm, append(slices.Clone(l), full()))
			wantRefused(t, what+", behind two of one Id", api.ErrForm, slices.Concat(tell("0.9", "0.9"), l))
			wantRefused(t, what+", ahead of two of one Id", api.ErrForm, slices.Concat(l, tell("0.9", "0.9")))
			wantRefused(t, what+", beside one that isn't there", api.ErrForm, append(slices.Clone(l), told("0.9 0.8")))
			wantRefused(t, what+", behind one that isn't there", api.ErrForm, append(tell("0.9 0.8", "0.7 0.9"), l...))
			wantRefused(t, what+", and all", api.ErrForm, slices.Concat(tell("0.9 0.8", "0.9"), l, tell("0.9 0.8", "0.9")))
		}
	}
}

// P19.1: right records of the other States are ErrForm, each alone and among others, those of whom others hang too.
func TestOtherStates(t *testing.T) {
	for _, base := range tell("0.1=1", "0.1", "0.1=9 1.1", "0.1 1.1") {
		for state := range 3 {
			r := base
			r.State = state
			if state == 0 {
				r = api.Rec{Id: r.Id, Bal: api.Ballot{Round: 3, By: 1}}
			}
			want(t, "it is right", rec.Check(r), api.OK)
			wantRefused(t, "alone", api.ErrForm, []api.Rec{r})
			wantRefused(t, "ahead", api.ErrForm, append([]api.Rec{r}, tell("1.1", "0.2 0.1")...))
			wantRefused(t, "behind", api.ErrForm, append(tell("1.1", "0.2 0.1"), r))
		}
	}
}

// P19.1: two of one Id, the same and not, side by side and apart: ErrThere, also if an Id isn't there.
func TestErrThere(t *testing.T) {
	one := told("1.2=4 0.1")
	for _, other := range tell("1.2=4 0.1", "1.2=5 0.1", "1.2=4", "1.2", "1.2 0.1", "1.2 0.3", "1.2 0.9", "1.2=4 0.9 1.9") {
		wantRefused(t, "alone", api.ErrThere, []api.Rec{one, other})
		wantRefused(t, "side by side", api.ErrThere, append([]api.Rec{one, other}, tell("0.1", "0.3")...))
		wantRefused(t, "apart", api.ErrThere, slices.Concat([]api.Rec{one}, tell("0.1", "0.3"), []api.Rec{other}))
		wantRefused(t, "behind", api.ErrThere, append(tell("0.1", "0.3"), other, one))
		wantRefused(t, "three", api.ErrThere, append(tell("0.1", "0.3"), other, one, other))
		wantRefused(t, "beside one that isn't there", api.ErrThere, append(tell("0.1 0.8", "0.3"), other, one))
		wantRefused(t, "behind one that isn't there", api.ErrThere, append(tell("0.9 0.8"), other, one))
	}
	wantRefused(t, "the first Id there is", api.ErrThere, tell("0.0", "1.0", "0.0"))
	wantRefused(t, "the last Id there is", api.ErrThere, tell("6.1099511627776", "1.0", "6.1099511627776=1"))
	wantRow(t, "1.2 2.2 1.3 2.3", "1.2", "2.2", "1.3", "2.3")
	cmd := one
	cmd.Cmd = api.Cmd{Kind: 6}
	wantRefused(t, "of two commands", api.ErrThere, []api.Rec{one, cmd, told("0.1")})
}

// P19.1: two that are the same are found at any places among many.
func TestErrThereAmongMany(t *testing.T) {
	names := inOrder()
	for a := range names {
		for b := range names {
			l := rising(names, func(int) []api.Id { return nil })
			l[a].Id = names[b]
			if a == b {
				wantOrder(t, l, names...)
			} else {
				wantRefused(t, "the same Id", api.ErrThere, l)
			}
		}
	}
}

// P19.1: an Id among Deps that isn't there: ErrNone, whichever it is, and whoever hangs on it.
func TestErrNone(t *testing.T) {
	names := inOrder()
	for lost := range names {
		there := slices.Delete(slices.Clone(names), lost, lost+1)
		for who := range there {
			l := rising(there, func(k int) []api.Id {
				if k == who {
					return []api.Id{names[lost]}
				}
				return nil
			})
			wantRefused(t, "on one that isn't there", api.ErrNone, l)
			l[who].Attr.Deps = slices.DeleteFunc(slices.Clone(names), func(i api.Id) bool { return i == l[who].Id })
			wantRefused(t, "on all, and one isn't there", api.ErrNone, l)
			l[who].Attr.Deps = slices.DeleteFunc(slices.Clone(there), func(i api.Id) bool { return i == l[who].Id })
			wantOrder(t, l, slices.Concat(there[:who], there[who+1:], there[who:who+1])...)
		}
	}
	wantRefused(t, "alone", api.ErrNone, tell("0.1 0.2"))
	wantRefused(t, "on 0.0", api.ErrNone, tell("0.1 0.0"))
	wantRefused(t, "R and N the other way", api.ErrNone, tell("0.1 1.2", "2.1"))
	wantRefused(t, "a neighbour", api.ErrNone, tell("0.1 1.2", "0.2", "2.2", "1.1", "1.3"))
	wantRefused(t, "a ring of which one isn't there", api.ErrNone, tell("0.1 0.2", "0.2 0.3", "0.4 0.1"))
	wantRefused(t, "of several", api.ErrNone, tell("0.1 0.2 0.3", "0.2 0.3"))
}

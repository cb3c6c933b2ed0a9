package order_test

import (
	"slices"
	"testing"

	"stonecrop/api"
	"stonecrop/order"
)

// wantLed is wantClosed by texts.
func wantLed(t *testing.T, from, in, out string, texts ...string) {
	t.Helper()
	wantClosed(t, tell(texts...), named(from)[0], named(in), named(out))
	wantClosed(t, backward(tell(texts...)), named(from)[0], named(in), named(out))
}

// P19.2: from one that isn't there, of no records, few and many: neither list, also where others hang on it.
func TestClosedOfNone(t *testing.T) {
	lists := [][]api.Rec{nil, {}, tell("0.1"), tell("0.1 0.2"), tell("0.1=2 1.1", "1.1=1 0.1"), tell("0.1 0.2", "1.1 0.2 0.3 0.4", "0.3 0.2")}
	for _, l := range lists {
		for _, i := range append(wild(), named("0.2 2.1 1.2 0.4 0.99")...) {
			if slices.Contains(idsOf(l), i) {
				continue
			}
			in, out := order.Closed(l, i)
			if len(in) != 0 || len(out) != 0 {
				t.Fatalf("Closed of %s from %v: %s, %s", show(l), i, show(in), show(out))
			}
		}
	}
}

// P19.2: from one that leads nowhere, from rows and from rings.
func TestClosedOfRowsAndRings(t *testing.T) {
	row := []string{"0.1 0.2", "0.2 0.3", "0.3 0.4", "0.4", "0.5"}
	wantLed(t, "0.1", "0.1 0.2 0.3 0.4", "", row...)
	wantLed(t, "0.3", "0.3 0.4", "", row...)
	wantLed(t, "0.4", "0.4", "", row...)
	wantLed(t, "0.5", "0.5", "", row...)
	rings := []string{"0.1 0.2", "0.2 0.3", "0.3 0.1 2.2", "2.2=1 2.1", "2.1=5 2.2", "0.4 0.1"}
	wantLed(t, "0.1", "0.1 2.1 0.2 2.2 0.3", "", rings...)
	wantLed(t, "0.3", "0.1 2.1 0.2 2.2 0.3", "", rings...)
	wantLed(t, "2.2", "2.1 2.2", "", rings...)
	wantLed(t, "0.4", "0.1 2.1 0.2 2.2 0.3 0.4", "", rings...)
	// What hangs on it isn't led to, if it doesn't lead back.
	wantLed(t, "2.1", "2.1 2.2", "", rings...)
	wantLed(t, "0.2", "0.2", "", "0.1 0.2", "0.2", "0.3 0.1 0.2")
}

// P19.2: some Ids aren't there: each once, as a set, and of those that are led to alone.
func TestClosedLacks(t *testing.T) {
	wantLed(t, "0.1", "0.1", "0.2", "0.1 0.2")
	wantLed(t, "0.1", "0.1", "0.0 3.1 0.2 0.10", "0.1 0.0 3.1 0.2 0.10")
	wantLed(t, "0.1", "0.1 0.2 0.3", "0.4 1.4", "0.1 0.2 0.3 0.4", "0.2 0.4", "0.3 0.4 1.4", "0.5 0.6 0.7", "0.8 0.1 0.9")
	wantLed(t, "0.2", "0.2", "0.4", "0.1 0.2 0.3 0.4", "0.2 0.4", "0.3 0.4 1.4", "0.5 0.6 0.7")
	wantLed(t, "0.8", "0.1 0.2 0.3 0.8", "0.4 1.4 0.9", "0.1 0.2 0.3 0.4", "0.2 0.4", "0.3 0.4 1.4", "0.8 0.1 0.9")
	// Those that aren't there come in order, whatever order those come in that lead to them.
	wantLed(t, "0.1", "0.1 0.2 0.3", "0.4 5.4 6.4 0.5 0.9 0.10", "0.1 0.2 0.3 0.10", "0.2 5.4 0.9", "0.3 0.4 6.4 0.5 0.9")
	wantLed(t, "0.1", "0.1 0.2", "1.1 2.1 0.3", "0.1 2.1 0.2", "0.2 1.1 2.1 0.3")
	// What stands behind one that isn't there isn't led to by that.
	wantLed(t, "0.1", "0.1", "0.2", "0.1 0.2", "0.3 0.2", "0.4 0.3")
	wantLed(t, "0.1", "0.1 0.2", "1.1 0.3", "0.1 1.1 0.2", "0.2 0.1 0.3")
}

// P19.2: Deps of records that aren't right are led along as others: those that fall, stand twice, are many, name the record or no right Id.
func TestClosedOfWrongDeps(t *testing.T) {
	wantLed(t, "0.1", "0.1 0.2 0.3", "0.4 0.5", "0.1 0.5 0.3 0.4 0.3 0.2 0.5", "0.2", "0.3 0.5 0.5 0.4")
	wantLed(t, "0.1", "0.1", "", "0.1 0.1", "0.2 0.1")
	wantLed(t, "0.1", "0.1 0.2", "", "0.1 0.2 0.1 0.1", "0.2 0.1 0.2")
	wantLed(t, "0.1", "0.1", "0.-1 -3.0 7.0 8.1 0.1099511627777", "0.1 0.1099511627777 7.0 0.-1 -3.0 8.1 7.0")
	wantLed(t, "9.-5", "9.-5 0.1 -1.2", "-1.-5", "0.1 -1.2", "9.-5 0.1", "-1.2 9.-5 -1.-5")
	wildOnes := wild()
	l := []api.Rec{{Id: wildOnes[0], Attr: api.Attr{Deps: backward(slices.Concat(wildOnes, wildOnes))}}}
	wantClosed(t, l, wildOnes[0], wildOnes[:1], wildOnes[1:])
	for _, i := range wildOnes[1:] {
		l = append(l, api.Rec{Id: i, State: -i.N, Attr: api.Attr{Deps: wildOnes[:3], Tag: i.R}})
	}
	for _, i := range wildOnes {
		wantClosed(t, l, i, wildOnes, nil)
		wantClosed(t, backward(l), i, wildOnes, nil)
	}
}

// P19.2: records of any State, tag, command and ballots are led to, and answered whole, each as it was handed in.
func TestClosedOfAnything(t *testing.T) {
	l := tell("0.3 0.1 0.2 0.9", "0.1 0.2", "0.2 0.3", "0.4=7 0.9")
	for what, turn := range turns() {
		for k := range l {
			r := full()
			turn(&r)
			if r.Id == full().Id || r.Id == (api.Id{}) {
				r.Id = l[k].Id
				r.Attr.Deps = append(slices.Clone(r.Attr.Deps), l[k].Attr.Deps...)
			}
			turned := slices.Clone(l)
			turned[k] = r
			in, out := read(turned).closed(r.Id)
			want(t, what+": it is among them", slices.Contains(in, r.Id), true)
			wantClosed(t, turned, r.Id, in, out)
			for _, i := range idsOf(turned) {
				in, out := read(turned).closed(i)
				wantClosed(t, turned, i, in, out)
			}
		}
	}
	wantClosed(t, []api.Rec{{}}, api.Id{}, []api.Id{{}}, nil)
	wantClosed(t, []api.Rec{{Attr: api.Attr{Deps: []api.Id{{}}}}}, api.Id{}, []api.Id{{}}, nil)
	wantClosed(t, []api.Rec{{}}, id(0, 1), nil, nil)
	// A promise alone leads nowhere, and one that isn't right, with Deps, along these.
	wantClosed(t, []api.Rec{told("0.1 0.2"), {Id: id(0, 2), Bal: api.Ballot{Round: 3, By: 1}}}, id(0, 1), named("0.1 0.2"), nil)
	wantClosed(t, []api.Rec{told("0.1 0.2"), {Id: id(0, 2), Attr: api.Attr{Deps: named("0.5")}}}, id(0, 1), named("0.1 0.2"), named("0.5"))
}

// P19.2: Deps of more Ids than there may be, of those that are there and of those that aren't.
func TestClosedOfMany(t *testing.T) {
	var all []api.Id
	for k := range 30000 {
		all = append(all, id(k%9, k/9))
	}
	l := []api.Rec{{Id: id(-1, -1), Attr: api.Attr{Deps: backward(all)}}, {Id: id(0, 77777), Attr: api.Attr{Deps: all}}}
	wantClosed(t, l, id(-1, -1), []api.Id{id(-1, -1)}, all)
	wantClosed(t, l, id(0, 77777), []api.Id{id(0, 77777)}, all)
	for _, i := range all[:20000] {
		l = append(l, api.Rec{Id: i, Attr: api.Attr{Deps: all[29990:]}})
	}
	in, out := order.Closed(l, id(0, 77777))
	wantIds(t, "those that are there", idsOf(in), append(slices.Clone(all[:20000]), id(0, 77777)))
	wantIds(t, "those that aren't", out, all[20000:])
	in, out = order.Closed(l, all[9])
	wantIds(t, "one that is there", idsOf(in), all[9:10])
	wantIds(t, "what it lacks", out, all[29990:])
}

// P1: of lists in which two have one Id nothing is promised but that they are answered.
func TestClosedOfTwice(t *testing.T) {
	for _, l := range [][]api.Rec{
		tell("0.1", "0.1"), tell("0.1 0.2", "0.1 0.3", "0.2 0.1"), tell("0.1 0.2", "0.2 0.1", "0.1", "0.1 0.1 0.5"), {{}, {}, {}},
	} {
		for _, i := range append(idsOf(l), id(0, 5), id(7, 7)) {
			order.Closed(l, i)
		}
	}
}

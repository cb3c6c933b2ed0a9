package shim_test

import (
	"bytes"
	"math"
	"slices"
	"strings"
	"testing"

	"stonecrop/api"
	"stonecrop/codec"
	"stonecrop/msg"
	"stonecrop/shim"
)

// P11.1: the document's example.
func TestExample(t *testing.T) {
	m := api.Msg{Kind: api.MPre, Id: id(1, 2), Cmd: put, Attr: api.Attr{Tag: api.TagId}}
	wantNoDown(t, m, api.ErrTag)
	m.Attr = api.Attr{Tag: api.TagSeq, Seq: 1}
	wantDown(t, m)
}

// P11.1: the bytes of a whole message; the sum is written out.
func TestDownOfHello(t *testing.T) {
	want := "\x01\x80\xaf\xdf\x5d\x02\x02\x00\x09\x00\x02"
	if b, e := shim.Down(api.Msg{Kind: api.MHello, Version: api.V2}); e != api.OK || string(b) != want {
		t.Errorf("an MHello of V2 goes down as % x, %d, want % x", b, e, want)
	}
}

// P11.1: of each Kind the bytes behind the sum, as the table has its parts, with the Attr in its old form.
func TestDownByteByByte(t *testing.T) {
	const (
		i    = "\x00\x01\x00\x02"
		bal  = "\x02\x02\x00\x02\x00\x01"
		took = "\x02\x02\x00\x01\x00\x04"
		c    = "\x02\x06\x00\x02\x00\x01\x00\x01\x01\x01k\x01\x01v\x00\x00"
		a    = "\x02\x02\x00\x04\x02\x04\x00\x00\x00\x02\x00\x06\x00\xf9\x01\x2c"
	)
	for _, row := range []struct {
		m    api.Msg
		want string
	}{
		{full(1), "\x02\x06\x00\x01" + i + bal + c + a},
		{full(2), "\x02\x05\x00\x02" + i + bal + a},
		{full(3), "\x02\x06\x00\x03" + i + bal + c + a},
		{full(4), "\x02\x04\x00\x04" + i + bal},
		{full(5), "\x02\x05\x00\x05" + i + c + a},
		{full(6), "\x02\x04\x00\x06" + i + bal},
		{nothing(), "\x02\x06\x00\x07" + i + bal + "\x00\x00" + "\x02\x02\x00\x00\x00\x00"},
		{prepOk(1), "\x02\x08\x00\x07" + i + bal + "\x00\x01" + took + c + a},
		{prepOk(2), "\x02\x08\x00\x07" + i + bal + "\x00\x02" + took + c + a},
		{prepOk(3), "\x02\x08\x00\x07" + i + bal + "\x00\x03" + took + c + a},
		{full(8), "\x02\x04\x00\x08" + i + bal},
		{full(9), "\x02\x02\x00\x09\x00\x02"},
	} {
		b, e := shim.Down(row.m)
		if want := withSum(1, row.want); e != api.OK || !bytes.Equal(b, want) {
			t.Errorf("%s goes down as % x, %d, want % x", short(row.m), b, e, want)
		}
		wantUp(t, short(row.m), withSum(1, row.want), row.m, api.OK)
	}
}

// P11.1, P11.3: down and up of each Kind and State, with each command and each Attr of TagSeq.
func TestDownAndUp(t *testing.T) {
	for _, m := range wholes() {
		wantDown(t, m)
	}
}

// P11.3: down and up of the least and the greatest Ids, ballots and numbers.
func TestDownAndUpOfEdges(t *testing.T) {
	for _, m := range bases() {
		for _, give := range singles() {
			for _, v := range edges {
				other := changed(m, func(m *api.Msg) { give(m, v) })
				if msg.Check(other) == api.OK && other.Attr.Tag != 2 && other.Cmd.Kind != 6 {
					wantDown(t, other)
				}
			}
		}
	}
}

// P11.1: what isn't right doesn't go down; it is ErrForm too where there is no old form, as that is named first.
func TestDownOfWhatIsNotRight(t *testing.T) {
	both := 0
	l := wrong()
	for _, m := range l {
		wantNoDown(t, m, api.ErrForm)
		if m.Attr.Tag == 2 || m.Cmd.Kind == 6 {
			both++
		}
	}
	if len(l) < 1000 || both < 500 {
		t.Errorf("only %d aren't right, %d of them of TagId or with a barrier", len(l), both)
	}
}

// P11.1: two errors at once, one by one.
func TestDownOfTwoErrors(t *testing.T) {
	for _, kind := range []int{api.MAccOk, api.MPrep, api.MNo, api.MHello} {
		wantNoDown(t, changed(full(kind), func(m *api.Msg) { m.Attr = byId() }), api.ErrForm)
		wantNoDown(t, changed(full(kind), func(m *api.Msg) { m.Cmd = barrier }), api.ErrForm)
	}
	wantNoDown(t, changed(nothing(), func(m *api.Msg) { m.Attr = byId() }), api.ErrForm)
	wantNoDown(t, changed(full(api.MPreOk), func(m *api.Msg) { m.Cmd = barrier }), api.ErrForm)
	wantNoDown(t, changed(full(api.MPre), func(m *api.Msg) { m.Attr = byId(m.Id) }), api.ErrForm)
	wantNoDown(t, changed(full(api.MAcc), func(m *api.Msg) { m.Cmd, m.Id.R = barrier, 7 }), api.ErrForm)
	wantNoDown(t, changed(full(api.MCom), func(m *api.Msg) { m.Cmd = barrier; m.Cmd.Client = 1 }), api.ErrForm)
	wantNoDown(t, changed(prepOk(api.SPre), func(m *api.Msg) { m.Attr = byId(); m.Took.Round = 3 }), api.ErrForm)
}

// P11.1: an Attr of TagId, and a command that is a KBarrier, of either tag, in each Kind that has one of them.
func TestDownOfWhatHasNoOldForm(t *testing.T) {
	kinds := map[int]int{}
	for _, m := range onlyNew() {
		wantNoDown(t, m, api.ErrTag)
		if m.Attr.Tag == 1 {
			kinds[m.Kind] += 100
		}
		kinds[m.Kind]++
	}
	for kind, n := range map[int]int{1: 200, 2: 1, 3: 200, 5: 200, 7: 600} {
		if kinds[kind] < n {
			t.Errorf("Kind %d: only %d", kind, kinds[kind])
		}
	}
	if len(kinds) != 5 {
		t.Errorf("the Kinds are %v", kinds)
	}
}

// longest is the right message with the longest old form.
func longest() api.Msg {
	var l []api.Id
	for k := range 4096 {
		l = append(l, id(6, most-4096+k))
	}
	end := api.Ballot{Round: most, By: 6}
	return api.Msg{
		Kind: api.MPrepOk, Id: id(5, most), Bal: end, State: api.SCom, Took: end, Attr: bySeq(most, l...),
		Cmd: api.Cmd{Kind: api.KCas, Client: 1 << 20, Seq: most, Key: strings.Repeat("\U0010ffff", 32), Val: strings.Repeat("v", 1024), Rev: most},
	}
}

// P11.1: no right message's old form is too long: the longest one has far fewer bytes than a form may have.
func TestNoOldFormIsTooLong(t *testing.T) {
	wantDown(t, longest())
	if b, _ := shim.Down(longest()); len(b) > api.MaxBytes/8 {
		t.Errorf("it has %d bytes", len(b))
	}
}

// P11.2: For by version; with another one nothing is looked at.
func TestFor(t *testing.T) {
	for _, m := range wholes() {
		if b, e := shim.For(m, api.V1); e != api.OK || !bytes.Equal(b, framed(t, 1, oldItem(m))) {
			t.Errorf("%s is sent to V1 as % x, %d", short(m), b, e)
		}
	}
	for _, m := range append(wholes(), onlyNew()...) {
		if b, e := shim.For(m, api.V2); e != api.OK || !bytes.Equal(b, framed(t, 2, newItem(m))) {
			t.Errorf("%s is sent to V2 as % x, %d", short(m), b, e)
		}
	}
	for _, m := range wrong() {
		if b, e := shim.For(m, api.V2); e != api.ErrForm || len(b) != 0 {
			t.Errorf("%s is sent to V2 as % x, %d", short(m), b, e)
		}
	}
	for _, m := range slices.Concat(bases(), onlyNew(), wrong()[:500]) {
		for _, version := range otherVersions {
			if b, e := shim.For(m, version); e != api.ErrArg || len(b) != 0 {
				t.Errorf("%s is sent to version %d as % x, %d", short(m), version, b, e)
			}
		}
	}
}

// P11.2, P11.3: what is sent to one who is of a version is read by it as it was.
func TestForAndRead(t *testing.T) {
	for _, m := range append(wholes(), onlyNew()...) {
		for _, to := range []int{api.V1, api.V2} {
			b, e := shim.For(m, to)
			if e != api.OK {
				continue
			}
			if got, e := shim.Read(b, to); e != api.OK || !msg.Same(got, m) {
				t.Errorf("%s is read by version %d as %s, %d", short(m), to, short(got), e)
			}
		}
	}
}

// P11.1: what stands in an old form: a first byte of 1, and an item that layer 3 reads; the new one differs in its Attr alone.
func TestOldAndNewForms(t *testing.T) {
	for _, m := range wholes() {
		b, e := shim.Down(m)
		x, e2 := msg.Open(1, b)
		c, e3 := msg.Put(m)
		y, e4 := msg.Open(2, c)
		if e != api.OK || e2 != api.OK || e3 != api.OK || e4 != api.OK || len(x.L) != len(y.L) {
			t.Fatalf("%s: %d, %d, %d, %d", short(m), e, e2, e3, e4)
		}
		for at := range x.L {
			same := !hasAttr(m) || at < len(x.L)-1
			if codec.Same(x.L[at], y.L[at]) != same {
				t.Errorf("%s: part %d is %v in the old form, and %v in the new one", short(m), at, x.L[at], y.L[at])
			}
		}
	}
}

// FuzzDown: P11.1, P11.3, P1: of any message, what goes down is right, and goes up as it was.
func FuzzDown(f *testing.F) {
	f.Add(1, 1, 2, 0, 0, 0, 0, 0, 2, 1, 1, "k", "v", 0, 1, 1, 0, 0, 0, 0)
	f.Add(7, 1, 2, 3, 1, 3, 1, 3, 6, 0, 0, "", "", 0, 1, 1, 0, 3, 0, 0)
	f.Add(7, 1, 2, 3, 1, 3, 1, 0, 0, 0, 0, "", "", 0, 0, 0, 0, 0, 0, 1)
	f.Add(2, 1, 2, 3, 1, 0, 0, 0, 0, 0, 0, "", "", 0, 2, 0, 4, most, 0, 2)
	f.Add(9, 0, 0, 0, 0, 0, 0, 0, 0, 0, 0, "", "", 0, 0, 0, 0, 0, 2, 1)
	f.Add(-1, math.MinInt, 2, 0, 0, 0, 0, 0, 2, 1, 1, "\xff", "v", 0, 1, 1, 0, 0, 0, 3)
	f.Fuzz(func(t *testing.T, kind, r, n, round, by, tookRound, tookBy, state, does, client, seq int, key, val string, rev, tag, row, dep, depN, hello, version int) {
		m := api.Msg{
			Kind: kind, Id: id(r, n), Bal: api.Ballot{Round: round, By: by}, Took: api.Ballot{Round: tookRound, By: tookBy}, State: state, Version: hello,
			Cmd: api.Cmd{Kind: does, Client: client, Seq: seq, Key: key, Val: val, Rev: rev}, Attr: api.Attr{Seq: row, Tag: tag},
		}
		if dep != 0 {
			m.Attr.Deps = []api.Id{id(dep, depN)}
		}
		want := msg.Check(m)
		if want == api.OK && (tag == 2 || does == 6) {
			want = api.ErrTag
		}
		if want == api.OK {
			wantDown(t, m)
		} else {
			wantNoDown(t, m, want)
		}
		b, e := shim.For(m, version)
		if other := version != 1 && version != 2; (e == api.ErrArg) != other || (e == api.OK) != (len(b) > 0) {
			t.Errorf("%s is sent to version %d as % x, %d", short(m), version, b, e)
		}
	})
}

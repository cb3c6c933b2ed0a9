package schema_test

import (
	"runtime"
	"slices"
	"strings"
	"testing"

	"stonecrop/api"
	"stonecrop/disk"
	"stonecrop/schema"
)

// room is r with more memory behind its Deps, which holds ids that nobody else has, and its own.
func room(r api.Rec) api.Rec {
	r.Attr.Deps = append(slices.Clone(r.Attr.Deps), id(-7, -7), r.Id, id(-7, -5))[:len(r.Attr.Deps)]
	return r
}

func untouched(r, was api.Rec) bool {
	n := len(r.Attr.Deps)
	return showing(r) == showing(was) && slices.Equal(r.Attr.Deps[n:n+3], []api.Id{id(-7, -7), was.Id, id(-7, -5)})
}

// over writes other things over all of a record's Deps, and behind them as far as their memory goes.
func over(r api.Rec) {
	l := r.Attr.Deps[:cap(r.Attr.Deps)]
	for at := range l {
		l[at] = id(-9, -9)
	}
}

// R4, R6: Put leaves the record as it was, with what lies behind its Deps, and keeps its values alone; of one that is refused, too.
func TestMemoryOfPut(t *testing.T) {
	for _, version := range versions() {
		d := disk.New(wide)
		s := wantOpen(t, d, version, nil)
		var l []api.Rec
		for _, one := range append(rightOf(version), wrong()...) {
			r := room(one)
			e := s.Put(r)
			if !untouched(r, one) {
				t.Fatalf("%s was changed", short(showing(one)))
			}
			if e == api.OK {
				l = append(l, one)
			}
			over(r)
			wantOpen(t, d, version, held(l))
		}
		wantLog(t, d, fileOf(version, l...))
		wantError(t, s.Compact(), api.OK)
		wantLog(t, d, fileOf(version, held(l)...))
	}
	full := disk.New(len(fileOf(api.V1)))
	s := wantOpen(t, full, api.V1, nil)
	for _, one := range append(both(), newOnly()...) {
		r := room(one)
		if s.Put(r) == api.OK || !untouched(r, one) {
			t.Errorf("%s was changed, or taken", short(showing(one)))
		}
	}
	down(t, full)
	for _, one := range both() {
		r := room(one)
		if s.Put(r) != api.ErrCrash || !untouched(r, one) {
			t.Errorf("%s was changed, or taken", short(showing(one)))
		}
	}
}

// R4: what Open answers is neither the store's nor another answer's: it may be written over, and it stays whatever becomes of the store.
func TestMemoryOfOpen(t *testing.T) {
	for _, version := range versions() {
		l := append(rightOf(version), greatest())
		d := logOf(t, fileOf(version, append(l, l...)...))
		s, first, _ := schema.Open(d, version)
		_, second, _ := schema.Open(d, version)
		for at, r := range first {
			over(r)
			wantRecords(t, first[at+1:], held(l)[at+1:])
		}
		clear(first[:cap(first)])
		wantRecords(t, second, held(l))
		wantOpen(t, d, version, held(l))
		wantError(t, s.Compact(), api.OK)
		wantLog(t, d, fileOf(version, held(l)...))

		for _, r := range both() {
			putAll(t, s, changed(r, func(r *api.Rec) { r.Bal = of(most, 6) }))
		}
		wantError(t, s.Compact(), api.OK)
		wantError(t, d.Remove("log"), api.OK)
		wantRecords(t, second, held(l))
	}
}

// R4: what was put and is then answered is no memory of whoever put it, nor the other way round.
func TestMemoryOfBoth(t *testing.T) {
	d := disk.New(wide)
	s := wantOpen(t, d, api.V2, nil)
	mine := byId(put(id(3, 5), api.SCom, "v"))
	want := byId(put(id(3, 5), api.SCom, "v"))
	putAll(t, s, mine)
	_, l, _ := schema.Open(d, api.V2)
	over(l[0])
	if showing(mine) != showing(want) {
		t.Error("writing over an answer changes what was handed in")
	}
	_, l, _ = schema.Open(d, api.V2)
	over(mine)
	wantRecords(t, l, []api.Rec{want})
	wantError(t, schema.Forward(d), api.OK)
	wantError(t, schema.Reverse(d), api.ErrTag)
	wantRecords(t, l, []api.Rec{want})
	wantOpen(t, d, api.V2, []api.Rec{want})
}

// R6: the same call on the same state has the same answer, each time.
func TestSameAnswers(t *testing.T) {
	for range 50 {
		for version, turn := range turns() {
			d := logOf(t, fileOf(other(version), both()...))
			wantOpen(t, d, other(version), held(both()))
			wantError(t, turn(d), api.OK)
			wantLog(t, d, fileOf(version, held(both())...))
		}
	}
}

// inUse is how much memory is in use once what nobody has any more is gone.
func inUse() int {
	runtime.GC()
	runtime.GC()
	var m runtime.MemStats
	runtime.ReadMemStats(&m)
	return int(m.HeapAlloc)
}

const large = 1 << 24

// R4: a store keeps neither the text that a value was cut from, nor the records that Open answered.
func TestNothingElseIsKept(t *testing.T) {
	d := disk.New(wide)
	s := wantOpen(t, d, api.V2, nil)
	for k := range 100 {
		putAll(t, s, changed(greatest(), func(r *api.Rec) { r.Id.N = k }))
	}
	val := strings.Repeat("v", large)
	before := inUse()
	putAll(t, s, put(id(3, 5), api.SCom, val[:10]))
	runtime.KeepAlive(val)
	val = ""
	if less := before - inUse(); less < large/2 {
		t.Errorf("the text that the value was cut from is kept: %d bytes less are in use", less)
	}
	before = inUse()
	s, l, e := schema.Open(d, api.V2)
	if e != api.OK || len(l) != 101 {
		t.Fatalf("%d records, error %d", len(l), e)
	}
	if more := inUse() - before; more > 1<<20 {
		t.Errorf("behind Open %d bytes more are in use", more)
	}
	putAll(t, s, promise(id(1, 2), 3, 1))
	runtime.KeepAlive(d)
}

// R1: a record that is above a limit is refused ahead of making as much of it.
func TestNothingAboveTheLimitIsMade(t *testing.T) {
	r := put(id(6, most), api.SCom, "v")
	r.Attr.Deps = make([]api.Id, 1<<18)
	for at := range r.Attr.Deps {
		r.Attr.Deps[at] = id(at%7, at/7)
	}
	for _, version := range versions() {
		s := wantOpen(t, disk.New(wide), version, nil)
		var before, after runtime.MemStats
		runtime.ReadMemStats(&before)
		e := s.Put(r)
		runtime.ReadMemStats(&after)
		wantError(t, e, api.ErrForm)
		if made := after.TotalAlloc - before.TotalAlloc; made > 1<<16 {
			t.Errorf("V%d: %d bytes of memory for what is refused", version, made)
		}
	}
}

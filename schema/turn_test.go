package schema_test

import (
	"fmt"
	"slices"
	"testing"

	"stonecrop/api"
	"stonecrop/disk"
	"stonecrop/schema"
)

// turns are Forward and Reverse: by the version that they make a store of.
func turns() map[int]func(d *disk.Disk) api.Errno {
	return map[int]func(d *disk.Disk) api.Errno{api.V2: schema.Forward, api.V1: schema.Reverse}
}

// other is the version that a turn to this one begins at.
func other(version int) int { return api.V1 + api.V2 - version }

// The document's example: Forward of a store with a promise: the same promise, of V2.
func TestForwardOfPromise(t *testing.T) {
	r := promise(id(1, 2), 3, 1)
	d := disk.New(wide)
	putAll(t, wantOpen(t, d, api.V1, nil), r)
	wantError(t, schema.Forward(d), api.OK)
	wantVersion(t, d, api.V2, api.OK)
	wantOpen(t, d, api.V2, []api.Rec{r})
	wantLog(t, d, fileOf(api.V2, r))
}

// P14.3: a turned store has the same records, of the other version, in a file written anew, all of it sure; it opens in that version alone.
func TestTurn(t *testing.T) {
	l := both()
	for version, turn := range turns() {
		for n := range len(l) + 1 {
			for _, torn := range []string{"", "torn"} {
				had := slices.Concat(l[n/2:n], l[:n])
				d := diskOf(t, wide, map[string]string{"log": fileOf(other(version), had...) + torn, "other": "x"})
				for range 3 {
					wantError(t, turn(d), api.OK)
					d.Boot([]int{0})
					wantFiles(t, d, map[string]string{"log": fileOf(version, held(had)...), "other": "x"})
				}
				wantVersion(t, d, version, api.OK)
				wantOpen(t, d, version, held(had))
				if version == api.V1 {
					wantNoStore(t, d, api.V2, api.ErrOld)
				} else {
					wantNoStore(t, d, api.V1, api.ErrTooNew)
				}
			}
		}
	}
}

// P14.3: there and back again: the same records, and the file of them alone.
func TestThereAndBack(t *testing.T) {
	l := append(both(), both()[:3]...)
	d := logOf(t, fileOf(api.V1, l...))
	for range 5 {
		wantError(t, schema.Forward(d), api.OK)
		wantLog(t, d, fileOf(api.V2, held(l)...))
		wantError(t, schema.Reverse(d), api.OK)
		wantLog(t, d, fileOf(api.V1, held(l)...))
		s := wantOpen(t, d, api.V1, held(l))
		putAll(t, s, l[4])
		l = append(l, l[4])
	}
}

// P14.3: without a disk ErrArg, and on one that is down ErrCrash, whatever the file is.
func TestTurnWithoutDisk(t *testing.T) {
	for _, turn := range turns() {
		wantError(t, turn(nil), api.ErrArg)
		for _, b := range []string{"", "torn", framed("lost"), fileOf(api.V1, both()...), fileOf(api.V2, newOnly()...), storeOf(api.V1, "lost"), storeOf(api.V2, "lost")} {
			d := logOf(t, b)
			down(t, d)
			wantError(t, turn(d), api.ErrCrash)
			d.Boot(nil)
			wantLog(t, d, b)
		}
	}
}

// P14.3: without records a store stays, byte by byte, and so does what other files there are.
func TestTurnOfNothing(t *testing.T) {
	for _, turn := range turns() {
		d := diskOf(t, wide, map[string]string{"log.fix": fileOf(api.V1)})
		d.Fuse(0)
		wantError(t, turn(d), api.OK)
		wantFiles(t, d, map[string]string{"log.fix": fileOf(api.V1)})
		for _, torn := range append(torns(), "") {
			d := logOf(t, torn)
			d.Fuse(0)
			wantError(t, turn(d), api.OK)
			wantLog(t, d, torn)
			wantVersion(t, d, 0, api.OK)
		}
	}
}

// P14.3: of a first record that is no header both are ErrLost, and nothing is changed.
func TestTurnOfNoHeader(t *testing.T) {
	for _, turn := range turns() {
		for _, first := range noHeaders() {
			for _, rest := range []string{"", "torn", fileOf(api.V1, both()...), fileOf(api.V2, newOnly()...)} {
				b := framed(first) + rest
				d := logOf(t, b)
				d.Fuse(0)
				wantError(t, turn(d), api.ErrLost)
				wantLog(t, d, b)
			}
		}
	}
}

// P14.3: a store that is of the version already stays byte by byte, whatever its other records are.
func TestTurnOfTurned(t *testing.T) {
	for version, turn := range turns() {
		for _, others := range [][]string{
			nil, {"lost"}, plains(both(), version), plains(append(both(), both()...), version), plains(both(), other(version)),
			plains(newOnly(), version), plains(newOnly(), other(version)), strangers(version), {header(other(version))},
		} {
			for _, torn := range append(torns(), "") {
				files := map[string]string{"log": storeOf(version, others...) + torn, "log.fix": "older"}
				d := diskOf(t, wide, files)
				d.Fuse(0)
				wantError(t, turn(d), api.OK)
				wantFiles(t, d, files)
			}
		}
	}
}

// P14.3: of a store with a record that is none of its version's both are ErrLost, wherever it stands, and nothing is changed.
func TestTurnOfLostRecords(t *testing.T) {
	for version, turn := range turns() {
		has := other(version)
		l := plains(both(), has)
		for _, lost := range strangers(has) {
			for _, at := range []int{0, 1, len(l)} {
				b := storeOf(has, slices.Insert(slices.Clone(l), at, lost)...) + "torn"
				d := logOf(t, b)
				d.Fuse(0)
				wantError(t, turn(d), api.ErrLost)
				wantLog(t, d, b)
			}
			if t.Failed() {
				t.Fatalf("to V%d: the record is % x", version, short(lost))
			}
		}
	}
}

// P14.3: Reverse of a store with a record of TagId, or of a KBarrier, is ErrTag, wherever it stands, and nothing is changed; Compact doesn't let it go.
func TestReverseErrTag(t *testing.T) {
	for _, r := range newOnly() {
		for _, at := range []int{0, 4, len(both())} {
			l := slices.Insert(slices.DeleteFunc(both(), func(o api.Rec) bool { return o.Id == r.Id }), min(at, len(both())-1), r)
			for _, torn := range []string{"", "torn"} {
				files := map[string]string{"log": fileOf(api.V2, l...) + torn, "log.fix": "older"}
				d := diskOf(t, wide, files)
				d.Fuse(0)
				for range 2 {
					wantError(t, schema.Reverse(d), api.ErrTag)
				}
				wantFiles(t, d, files)
			}
			d := logOf(t, fileOf(api.V2, l...))
			s := wantOpen(t, d, api.V2, held(l))
			wantError(t, s.Compact(), api.OK)
			wantError(t, schema.Reverse(d), api.ErrTag)
			wantError(t, schema.Forward(d), api.OK)
			wantLog(t, d, fileOf(api.V2, held(l)...))
			wantNoStore(t, d, api.V1, api.ErrTooNew)
		}
	}
}

// P14.3: the records of a store are those that hold: one without an old form keeps it from going back only while it holds.
func TestReverseOfWhatHolds(t *testing.T) {
	for _, gone := range newOnly() {
		r := put(gone.Id, api.SAcc, "w")
		d := logOf(t, fileOf(api.V2, gone, r))
		wantError(t, schema.Reverse(d), api.OK)
		wantLog(t, d, fileOf(api.V1, r))

		b := fileOf(api.V2, r, gone)
		d = logOf(t, b)
		wantError(t, schema.Reverse(d), api.ErrTag)
		wantLog(t, d, b)
	}
}

// P14.3: ErrTag comes ahead of the disk's errors, and ErrLost ahead of it: a store that can't be read has no records.
func TestOrderOfTurnsErrors(t *testing.T) {
	l := append(both(), newOnly()[3])
	b := fileOf(api.V2, l...)
	d := diskOf(t, len(b), map[string]string{"log": b})
	d.Fuse(0)
	wantError(t, schema.Reverse(d), api.ErrTag)
	wantLog(t, d, b)
	for _, at := range []int{0, len(l)} {
		b := storeOf(api.V2, slices.Insert(plains(l, api.V2), at, "lost")...)
		d := logOf(t, b)
		wantError(t, schema.Reverse(d), api.ErrLost)
		wantLog(t, d, b)
	}
}

// P14.3: the new file needs room, and a place, beside the old one: without it the store stays as it was.
func TestTurnWithoutRoom(t *testing.T) {
	l := append(both(), both()...)
	for version, turn := range turns() {
		was, will := fileOf(other(version), l...), fileOf(version, held(l)...)
		for _, fix := range []string{"", "older"} {
			d := diskOf(t, len(was)+len(will), map[string]string{"log": was, "log.fix": fix})
			wantError(t, turn(d), api.OK)
			wantLog(t, d, will)
			d = diskOf(t, len(was)+len(will)-1, map[string]string{"log": was, "log.fix": fix})
			for range 2 {
				wantError(t, turn(d), api.ErrFull)
				wantLog(t, d, was)
			}
			wantOpen(t, d, other(version), held(l))
		}
		files := map[string]string{"log": was}
		for k := range api.MaxFiles - 1 {
			files[fmt.Sprintf("f%02d", k)] = "x"
		}
		d := diskOf(t, wide, files)
		wantError(t, turn(d), api.ErrLimit)
		wantFiles(t, d, files)
	}
}

// P14.3: a record whose form is of many bytes in the one version goes to the other one as a whole.
func TestTurnOfGreatest(t *testing.T) {
	d := logOf(t, fileOf(api.V1, greatest(), promise(id(1, 5), 3, 1)))
	want := []api.Rec{promise(id(1, 5), 3, 1), greatest()}
	wantError(t, schema.Forward(d), api.OK)
	wantLog(t, d, fileOf(api.V2, want...))
	wantError(t, schema.Reverse(d), api.OK)
	wantLog(t, d, fileOf(api.V1, want...))
}

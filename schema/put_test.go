package schema_test

import (
	"slices"
	"strings"
	"testing"

	"stonecrop/api"
	"stonecrop/disk"
	"stonecrop/schema"
)

// P14.2: each record comes behind the others, in the version's form, and is sure.
func TestPut(t *testing.T) {
	for _, version := range versions() {
		d := disk.New(wide)
		s := wantOpen(t, d, version, nil)
		l := append(rightOf(version), greatest(), put(id(3, 5), api.SCom, "again"))
		for at, r := range l {
			putAll(t, s, r)
			wantLog(t, d, fileOf(version, l[:at+1]...))
		}
		d.Boot([]int{0})
		wantLog(t, d, fileOf(version, l...))
		wantOpen(t, d, version, held(l))
	}
}

// P14.2: behind each Put all of it is sure: nothing of it is a tail any more.
func TestPutIsSure(t *testing.T) {
	for _, version := range versions() {
		l := rightOf(version)
		for n := range len(l) + 1 {
			d := disk.New(wide)
			putAll(t, wantOpen(t, d, version, nil), l[:n]...)
			d.Boot([]int{0})
			wantLog(t, d, fileOf(version, l[:n]...))
		}
	}
}

// P14.2: a record that isn't right is ErrForm, in both versions, whether it would have an old form or not; ahead of the disk's errors.
func TestPutOfWrongRecords(t *testing.T) {
	for _, version := range versions() {
		d := disk.New(wide)
		s := wantOpen(t, d, version, nil)
		putAll(t, s, both()...)
		d.Fuse(0)
		for _, r := range wrong() {
			wantError(t, s.Put(r), api.ErrForm)
		}
		if d.Down() {
			t.Error("a deed was done")
		}
		wantLog(t, d, fileOf(version, both()...))
		down(t, d)
		for _, r := range wrong() {
			wantError(t, s.Put(r), api.ErrForm)
		}
		full := disk.New(len(fileOf(version)))
		s = wantOpen(t, full, version, nil)
		for _, r := range wrong() {
			wantError(t, s.Put(r), api.ErrForm)
		}
	}
}

// P14.2: a right record without an old form is ErrTag, of V1 alone; ahead of the disk's errors.
func TestPutErrTag(t *testing.T) {
	d := disk.New(wide)
	s := wantOpen(t, d, api.V1, nil)
	putAll(t, s, both()...)
	d.Fuse(0)
	for _, r := range newOnly() {
		wantError(t, s.Put(r), api.ErrTag)
	}
	if d.Down() {
		t.Error("a deed was done")
	}
	wantLog(t, d, fileOf(api.V1, both()...))
	down(t, d)
	for _, r := range newOnly() {
		wantError(t, s.Put(r), api.ErrTag)
	}
	d.Boot(nil)
	wantOpen(t, d, api.V1, held(both()))

	full := disk.New(len(fileOf(api.V1)))
	wantError(t, wantOpen(t, full, api.V1, nil).Put(newOnly()[0]), api.ErrTag)

	d = disk.New(wide)
	s = wantOpen(t, d, api.V2, nil)
	putAll(t, s, newOnly()...)
	wantOpen(t, d, api.V2, held(newOnly()))
}

// P14.2: the same Id again and again: each is added, and the last one holds.
func TestPutAgain(t *testing.T) {
	for _, version := range versions() {
		d := disk.New(wide)
		s := wantOpen(t, d, version, nil)
		var l []api.Rec
		for k := range 300 {
			r := put(id(k%3, 5), api.SPre+k%3, strings.Repeat("v", k))
			putAll(t, s, r)
			l = append(l, r)
		}
		wantLog(t, d, fileOf(version, l...))
		wantOpen(t, d, version, held(l))
		if len(held(l)) != 3 {
			t.Errorf("%d records hold", len(held(l)))
		}
	}
}

// P14.2: as much room as a record takes, and one byte less: ErrFull, and nothing is changed; a smaller one is taken yet.
func TestPutOnFullDisk(t *testing.T) {
	small := promise(id(1, 5), 3, 1)
	for _, version := range versions() {
		for _, r := range rightOf(version) {
			room := len(fileOf(version, r, small))
			d := disk.New(room - 1)
			s := wantOpen(t, d, version, nil)
			putAll(t, s, small)
			for range 3 {
				wantError(t, s.Put(r), api.ErrFull)
				wantLog(t, d, fileOf(version, small))
			}
			wantOpen(t, d, version, []api.Rec{small})
			if r.State != api.SNone {
				putAll(t, s, small)
				wantLog(t, d, fileOf(version, small, small))
			}

			d = disk.New(room)
			s = wantOpen(t, d, version, nil)
			putAll(t, s, small, r)
			wantLog(t, d, fileOf(version, small, r))
			wantError(t, s.Put(small), api.ErrFull)
		}
	}
}

// P14.2: on a disk that is down Put and Compact are ErrCrash, and nothing is changed; with the power back they go on.
func TestPutOnDiskThatIsDown(t *testing.T) {
	for _, version := range versions() {
		d := disk.New(wide)
		s := wantOpen(t, d, version, nil)
		putAll(t, s, both()...)
		down(t, d)
		for range 2 {
			for _, r := range rightOf(version) {
				wantError(t, s.Put(r), api.ErrCrash)
			}
			wantError(t, s.Compact(), api.ErrCrash)
		}
		d.Boot(nil)
		wantLog(t, d, fileOf(version, both()...))
		putAll(t, s, both()[0])
		wantLog(t, d, fileOf(version, append(both(), both()[0])...))
		wantError(t, s.Compact(), api.OK)
		wantLog(t, d, fileOf(version, held(both())...))
	}
}

// P14.2: Compact of a store without records leaves the header alone.
func TestCompactOfNoRecords(t *testing.T) {
	for _, version := range versions() {
		d := disk.New(wide)
		s := wantOpen(t, d, version, nil)
		for range 2 {
			wantError(t, s.Compact(), api.OK)
			wantLog(t, d, fileOf(version))
		}
		putAll(t, s, both()...)
		wantLog(t, d, fileOf(version, both()...))
	}
}

// P14.2: behind Compact the file has the header, and the records of the store alone, in their order; those that were there ahead of Open, too. All of it is sure.
func TestCompact(t *testing.T) {
	for _, version := range versions() {
		l := rightOf(version)
		old := slices.Clone(l)
		slices.Reverse(old)
		for n := range len(l) + 1 {
			d := logOf(t, fileOf(version, old...)+"torn")
			s := wantOpen(t, d, version, held(old))
			putAll(t, s, l[:n]...)
			putAll(t, s, l[:n/2]...)
			want := held(slices.Concat(old, l[:n], l[:n/2]))
			for range 2 {
				wantError(t, s.Compact(), api.OK)
				wantLog(t, d, fileOf(version, want...))
			}
			d.Boot([]int{0})
			wantLog(t, d, fileOf(version, want...))
			wantOpen(t, d, version, want)
			putAll(t, s, l[0])
			wantLog(t, d, fileOf(version, append(want, l[0])...))
			wantOpen(t, d, version, held(append(want, l[0])))
		}
	}
}

// P14.2: Compact takes what was put by whoever has the store open, and other files stay.
func TestCompactOfTwo(t *testing.T) {
	for _, version := range versions() {
		d := diskOf(t, wide, map[string]string{"other": "x", "log.fix": "older"})
		first := wantOpen(t, d, version, nil)
		second := wantOpen(t, d, version, nil)
		l := both()
		putAll(t, first, l[0], l[1])
		putAll(t, second, l[2])
		putAll(t, first, l[3])
		wantError(t, second.Compact(), api.OK)
		wantFiles(t, d, map[string]string{"other": "x", "log": fileOf(version, held(l[:4])...)})
		putAll(t, first, l[4])
		wantError(t, first.Compact(), api.OK)
		wantOpen(t, d, version, held(l[:5]))
	}
}

// P14.2: the new file needs room beside the old one; without it the old one stays, and goes on to be put behind.
func TestCompactWithoutRoom(t *testing.T) {
	l := both()
	twice := append(slices.Clone(l), l...)
	for _, version := range versions() {
		room := len(fileOf(version, twice...)) + len(fileOf(version, held(l)...))
		for _, more := range []int{-1, 0} {
			d := disk.New(room + more)
			s := wantOpen(t, d, version, nil)
			putAll(t, s, twice...)
			if more == 0 {
				wantError(t, s.Compact(), api.OK)
				wantLog(t, d, fileOf(version, held(l)...))
				continue
			}
			wantError(t, s.Compact(), api.ErrFull)
			wantLog(t, d, fileOf(version, twice...))
			wantOpen(t, d, version, held(l))
			putAll(t, s, l[1])
			wantLog(t, d, fileOf(version, append(twice, l[1])...))
		}
		d := disk.New(len(fileOf(version)))
		wantError(t, wantOpen(t, d, version, nil).Compact(), api.ErrFull)
		wantLog(t, d, fileOf(version))
	}
}

// P14.2, P14.3: a store that another program has turned, or spoilt, isn't made one of the old version again by Compact: nothing is changed.
func TestCompactOfAnotherStore(t *testing.T) {
	l := both()
	for _, one := range []struct {
		version int
		file    string
		want    api.Errno
	}{
		{api.V1, fileOf(api.V2, l...), api.ErrTooNew},
		{api.V2, fileOf(api.V1, l...), api.ErrOld},
		{api.V1, framed("lost"), api.ErrLost},
		{api.V2, storeOf(api.V2, "lost"), api.ErrLost},
	} {
		d := disk.New(wide)
		s := wantOpen(t, d, one.version, nil)
		wantError(t, d.Remove("log"), api.OK)
		wantError(t, d.Append("log", []byte(one.file)), api.OK)
		wantError(t, s.Compact(), one.want)
		wantLog(t, d, one.file)
	}
}

// P14.2: of each version's store Put knows its own alone, however many are open.
func TestStoresAreApart(t *testing.T) {
	old, fresh := disk.New(wide), disk.New(wide)
	a := wantOpen(t, old, api.V1, nil)
	b := wantOpen(t, fresh, api.V2, nil)
	for _, r := range both() {
		putAll(t, a, r)
		putAll(t, b, byIdOr(r))
		wantError(t, a.Put(newOnly()[0]), api.ErrTag)
	}
	wantOpen(t, old, api.V1, held(both()))
	if v, e := schema.Version(fresh); v != api.V2 || e != api.OK {
		t.Errorf("the version is %d, error %d", v, e)
	}
	_, l, _ := schema.Open(fresh, api.V2)
	if len(l) != len(both()) {
		t.Errorf("%d records", len(l))
	}
}

// byIdOr is a record of TagId, or one of SNone as it is.
func byIdOr(r api.Rec) api.Rec {
	if r.State == api.SNone {
		return r
	}
	return byId(r)
}

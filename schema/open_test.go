package schema_test

import (
	"fmt"
	"math"
	"slices"
	"strings"
	"testing"

	"stonecrop/api"
	"stonecrop/disk"
	"stonecrop/log"
	"stonecrop/schema"
)

// The header of both versions, as bytes written out: the tests' own forms are these.
func TestHeaderWrittenOut(t *testing.T) {
	for version, want := range map[int]string{
		api.V1: "\x0f\x73\xa9\xd1\xcf\x02\x02\x01\x09stonecrop\x00\x01",
		api.V2: "\x0f\x47\x4e\x79\x56\x02\x02\x01\x09stonecrop\x00\x02",
	} {
		if got := framed(header(version)); got != want {
			t.Errorf("the tests' header of V%d is % x", version, got)
		}
		d := disk.New(wide)
		wantOpen(t, d, version, nil)
		wantLog(t, d, want)
	}
}

// P14.1: Version of each file that a store may have.
func TestVersion(t *testing.T) {
	for _, one := range []struct {
		file    string
		version int
	}{
		{"", 0},
		{fileOf(api.V1), 1},
		{fileOf(api.V2), 2},
		{fileOf(api.V1, both()...), 1},
		{fileOf(api.V2, rightOf(api.V2)...), 2},
		{storeOf(api.V1, plains(newOnly(), api.V2)...), 1},
		{storeOf(api.V1, strangers(api.V1)...), 1},
		{storeOf(api.V2, strangers(api.V2)...), 2},
		{storeOf(api.V1, header(api.V2)), 1},
		{storeOf(api.V2, header(api.V1)), 2},
		{fileOf(api.V1) + "torn", 1},
		{fileOf(api.V2, both()...) + "torn", 2},
	} {
		d := logOf(t, one.file)
		wantVersion(t, d, one.version, api.OK)
		wantLog(t, d, one.file)
	}
}

// P14.1: without a disk Version is ErrArg, and of one that is down ErrCrash, whatever the file is.
func TestVersionWithoutDisk(t *testing.T) {
	wantVersion(t, nil, 0, api.ErrArg)
	for _, b := range []string{"", "torn", fileOf(api.V1), fileOf(api.V2), framed("lost")} {
		d := logOf(t, b)
		down(t, d)
		wantVersion(t, d, 0, api.ErrCrash)
		d.Boot(nil)
		wantLog(t, d, b)
	}
	d := disk.New(0)
	down(t, d)
	wantVersion(t, d, 0, api.ErrCrash)
}

// P14.1: where there is no file, or no whole record in it, the version is 0. Other files count for nothing.
func TestVersionOfNothing(t *testing.T) {
	others := map[string]string{"log.fix": fileOf(api.V2), "log2": fileOf(api.V1), "store": fileOf(api.V1)}
	d := diskOf(t, wide, others)
	wantVersion(t, d, 0, api.OK)
	wantFiles(t, d, others)
	wantVersion(t, disk.New(0), 0, api.OK)
	for _, torn := range append(torns(), "") {
		d := logOf(t, torn)
		wantVersion(t, d, 0, api.OK)
		wantLog(t, d, torn)
		d = logOf(t, torn+fileOf(api.V1))
		if torn != "" {
			wantVersion(t, d, 0, api.OK)
		}
	}
}

// P14.1: of a first record that is no header Version and Open are ErrLost, and nothing is changed; whatever stands behind it.
func TestNoHeader(t *testing.T) {
	for _, first := range noHeaders() {
		for _, rest := range []string{"", "torn", fileOf(api.V1), fileOf(api.V2, both()...)} {
			d := logOf(t, framed(first)+rest)
			wantVersion(t, d, 0, api.ErrLost)
			for _, version := range versions() {
				wantNoStore(t, d, version, api.ErrLost)
			}
			wantLog(t, d, framed(first)+rest)
			if t.Failed() {
				t.Fatalf("the first record is % x", first)
			}
		}
	}
}

// P14.1: Version does no deed, nor does an Open that refuses, or that finds a whole store.
func TestReadingIsNoDeed(t *testing.T) {
	for _, b := range []string{"", "torn", framed("lost") + "torn", fileOf(api.V1) + "torn", fileOf(api.V2) + "torn", storeOf(api.V1, "lost") + "torn"} {
		d := logOf(t, b)
		d.Fuse(0)
		schema.Version(d)
		schema.Open(d, 0)
		schema.Open(d, 3)
		for _, version := range versions() {
			if v, e := schema.Version(d); e != api.OK || v != 0 && v != version || strings.Contains(b, "lost") {
				schema.Open(d, version)
			}
		}
		if d.Down() {
			t.Errorf("a deed was done on %q", b)
		}
	}
	for _, version := range versions() {
		l := rightOf(version)
		d := logOf(t, fileOf(version, l...))
		d.Fuse(0)
		wantOpen(t, d, version, held(l))
		wantLog(t, d, fileOf(version, l...))
	}
}

// noVersions are numbers that are no versions; some go round to one in fewer bits.
func noVersions() []int {
	return []int{0, 3, -1, -2, 4, 255, 256, 257, 258, 1<<16 + 1, 1<<32 + 1, 1<<32 + 2, 1<<63 - 1, math.MinInt, math.MinInt + 1, math.MinInt + 2}
}

// P14.1: Open without a disk, or of a version that is none, is ErrArg ahead of all else, and nothing is changed.
func TestOpenErrArg(t *testing.T) {
	for _, version := range append(noVersions(), versions()...) {
		wantNoStore(t, nil, version, api.ErrArg)
	}
	for _, version := range noVersions() {
		wantNoStore(t, disk.New(wide), version, api.ErrArg)
		for _, b := range []string{"", "torn", fileOf(api.V1), fileOf(api.V2, both()...) + "torn", framed("lost") + "torn", storeOf(api.V1, "lost")} {
			d := logOf(t, b)
			wantNoStore(t, d, version, api.ErrArg)
			wantLog(t, d, b)
			down(t, d)
			wantNoStore(t, d, version, api.ErrArg)
		}
	}
	d := disk.New(wide)
	schema.Open(d, 0)
	wantFiles(t, d, nil)
}

// P14.1: Open on a disk that is down is ErrCrash, whatever the file is.
func TestOpenOnDiskThatIsDown(t *testing.T) {
	for _, b := range []string{"", "torn", fileOf(api.V1), fileOf(api.V2, both()...) + "torn", framed("lost") + "torn", storeOf(api.V1, "lost"), storeOf(api.V2, "lost")} {
		d := logOf(t, b)
		down(t, d)
		for _, version := range versions() {
			wantNoStore(t, d, version, api.ErrCrash)
		}
		d.Boot(nil)
		wantLog(t, d, b)
	}
	d := disk.New(wide)
	down(t, d)
	wantNoStore(t, d, api.V1, api.ErrCrash)
	d.Boot(nil)
	wantFiles(t, d, nil)
}

// P14.1, P14.4: a store that is too new, or too old, doesn't open; the files stay byte by byte, and whatever the other records are.
func TestOpenOfAnotherVersion(t *testing.T) {
	for version, want := range map[int]api.Errno{api.V1: api.ErrTooNew, api.V2: api.ErrOld} {
		has := api.V1 + api.V2 - version
		for _, others := range [][]string{nil, plains(both(), has), plains(both(), version), strangers(has), strangers(version), {"lost"}} {
			for _, torn := range append(torns(), "") {
				files := map[string]string{"log": storeOf(has, others...) + torn, "log.fix": "older", "other": fileOf(version)}
				d := diskOf(t, wide, files)
				d.Fuse(0)
				for range 2 {
					wantNoStore(t, d, version, want)
				}
				wantFiles(t, d, files)
				wantVersion(t, d, has, api.OK)
			}
		}
	}
}

// P14.1: another record that is none of the version's is ErrLost, wherever it stands, also where a right one of the same Id stands behind it; nothing is changed.
func TestOpenOfLostRecords(t *testing.T) {
	for _, version := range versions() {
		l := plains(both(), version)
		for _, lost := range strangers(version) {
			for _, at := range []int{0, 1, len(l)} {
				for _, torn := range []string{"", "torn"} {
					b := storeOf(version, slices.Insert(slices.Clone(l), at, lost)...) + torn
					d := logOf(t, b)
					wantNoStore(t, d, version, api.ErrLost)
					wantLog(t, d, b)
				}
			}
			wantNoStore(t, logOf(t, storeOf(version, lost)), version, api.ErrLost)
			if t.Failed() {
				t.Fatalf("V%d: the record is % x", version, short(lost))
			}
		}
	}
}

// P14.1: of right records of both versions each opens in its form alone; one of SNone has one form.
func TestOpenOfFormsOfOtherVersion(t *testing.T) {
	for _, r := range append(both(), newOnly()...) {
		for _, version := range versions() {
			for _, has := range versions() {
				d := logOf(t, storeOf(has, plain(r, version)))
				if version == has && (has == api.V2 || hasOld(r)) || r.State == api.SNone {
					wantOpen(t, d, has, []api.Rec{r})
				} else {
					wantNoStore(t, d, has, api.ErrLost)
				}
			}
		}
	}
}

// hasOld tells whether a right record has an old form.
func hasOld(r api.Rec) bool { return r.Attr.Tag != api.TagId && r.Cmd.Kind != api.KBarrier }

// P14.1: where there is no file, an empty one, or one without a whole record, the header is written, and the store is there.
func TestOpenWritesHeader(t *testing.T) {
	for _, version := range versions() {
		for _, torn := range append(torns(), "") {
			d := logOf(t, torn)
			s := wantOpen(t, d, version, nil)
			wantLog(t, d, fileOf(version))
			putAll(t, s, both()[0])
			wantLog(t, d, fileOf(version, both()[0]))
		}
		d := diskOf(t, wide, map[string]string{"log.fix": "older"})
		wantOpen(t, d, version, nil)
		if b, e := d.Read("log"); string(b) != fileOf(version) || e != api.OK {
			t.Errorf("the log is %q, error %d", b, e)
		}
		d.Boot([]int{0, 0})
		wantVersion(t, d, version, api.OK)
		wantOpen(t, d, version, nil)
	}
}

// P14.1: bytes behind whole records are cut, on a full disk, too.
func TestOpenCutsTornBytes(t *testing.T) {
	for _, version := range versions() {
		l := rightOf(version)
		for _, torn := range torns() {
			b := fileOf(version, l...)
			d := diskOf(t, len(b)+len(torn), map[string]string{"log": b + torn})
			wantOpen(t, d, version, held(l))
			wantLog(t, d, b)
			d = logOf(t, b+torn)
			s := wantOpen(t, d, version, held(l))
			putAll(t, s, l[0])
			wantLog(t, d, b+framed(plain(l[0], version)))
			wantOpen(t, d, version, held(append(slices.Clone(l), l[0])))
		}
		b := fileOf(version, l...)
		d := logOf(t, b+torns()[0])
		d.Fuse(0)
		wantNoStore(t, d, version, api.ErrCrash)
		d.Boot(nil)
		wantOpen(t, d, version, held(l))
	}
}

// P14.1: a header that has no room, or no place, is the disk's error, and there is no store.
func TestOpenOnFullDisk(t *testing.T) {
	for _, version := range versions() {
		size := len(fileOf(version))
		for room := range size {
			d := disk.New(room)
			wantNoStore(t, d, version, api.ErrFull)
			wantVersion(t, d, 0, api.OK)
			d = diskOf(t, size+2, map[string]string{"other": strings.Repeat("x", 3+room%5)})
			wantNoStore(t, d, version, api.ErrFull)
			wantVersion(t, d, 0, api.OK)
		}
		d := disk.New(size)
		s := wantOpen(t, d, version, nil)
		wantLog(t, d, fileOf(version))
		wantError(t, s.Put(both()[0]), api.ErrFull)

		files := map[string]string{}
		for k := range api.MaxFiles {
			files[fmt.Sprintf("f%02d", k)] = "x"
		}
		d = diskOf(t, wide, files)
		wantNoStore(t, d, version, api.ErrLimit)
		wantFiles(t, d, files)
		delete(files, "f00")
		wantOpen(t, diskOf(t, wide, files), version, nil)
	}
}

// P14.1: of each Id the last one holds, and the records come in the order of their Ids, however they were put.
func TestOpenOrder(t *testing.T) {
	for _, version := range versions() {
		l := rightOf(version)
		for turn := range len(l) {
			mixed := slices.Concat(l[turn:], l[:turn])
			for range 2 {
				s, _, _ := schema.Open(disk.New(wide), version)
				d := disk.New(wide)
				s = wantOpen(t, d, version, nil)
				putAll(t, s, mixed...)
				wantOpen(t, d, version, held(mixed))
				slices.Reverse(mixed)
				wantOpen(t, logOf(t, fileOf(version, mixed...)), version, held(mixed))
			}
		}
	}
	want := []string{"0.0", "6.0", "0.1", "1.1", "6.1", "0.2", "3.255", "2.256", "1.257", "0.65536", "0.1099511627776", "6.1099511627776"}
	var l []api.Rec
	for _, at := range []int{7, 3, 11, 0, 9, 5, 1, 8, 2, 10, 4, 6} {
		var i api.Id
		fmt.Sscanf(want[at], "%d.%d", &i.R, &i.N)
		l = append(l, promise(i, 1, 0))
	}
	d := logOf(t, fileOf(api.V1, append(l, l...)...))
	_, got, _ := schema.Open(d, api.V1)
	var texts []string
	for _, r := range got {
		texts = append(texts, fmt.Sprintf("%d.%d", r.Id.R, r.Id.N))
	}
	if !slices.Equal(texts, want) {
		t.Errorf("the order is %q", texts)
	}
}

// P14.1: the last one holds whatever it is: a store doesn't ask that records go on.
func TestLastOneHolds(t *testing.T) {
	i := id(3, 5)
	l := []api.Rec{
		put(i, api.SCom, "v"), promise(i, 1, 0), put(i, api.SPre, "w"), promise(i, 9, 0), promise(i, 0, 0), put(i, api.SAcc, ""),
	}
	for _, version := range versions() {
		d := disk.New(wide)
		s := wantOpen(t, d, version, nil)
		for at, r := range l {
			putAll(t, s, r)
			wantOpen(t, d, version, []api.Rec{r})
			wantLog(t, d, fileOf(version, l[:at+1]...))
		}
	}
}

// P14.1: a store of the greatest records, and of many of them.
func TestGreatRecords(t *testing.T) {
	var l []api.Rec
	for k := range 20 {
		l = append(l, changed(greatest(), func(r *api.Rec) { r.Id.N -= 6000 + 7*k%20 }))
	}
	d := disk.New(wide)
	s := wantOpen(t, d, api.V1, nil)
	putAll(t, s, l...)
	wantLog(t, d, fileOf(api.V1, l...))
	wantOpen(t, d, api.V1, held(l))
	wantError(t, schema.Forward(d), api.OK)
	wantLog(t, d, fileOf(api.V2, held(l)...))
	wantOpen(t, d, api.V2, held(l))
	wantError(t, schema.Reverse(d), api.OK)
	wantLog(t, d, fileOf(api.V1, held(l)...))
}

// P14.1, P1: any bytes as the log: each call answers, as the chapter tells by what the others do, and a store that opens is one.
func FuzzOpen(f *testing.F) {
	for _, version := range versions() {
		f.Add(fileOf(version, rightOf(version)...), 0, "")
		f.Add(fileOf(version, rightOf(version)...)+"torn", 30, "\x01")
		f.Add(storeOf(version, strangers(version)[:3]...), 0, "")
		f.Add(storeOf(version, plains(both(), api.V1+api.V2-version)...), 0, "")
	}
	for _, first := range noHeaders() {
		f.Add(framed(first), 0, "")
	}
	f.Add("torn", 0, "")
	f.Fuzz(func(t *testing.T, b string, at int, with string) {
		if at >= 0 && at <= len(b) {
			b = b[:at] + with + b[at:]
		}
		d := logOf(t, b)
		version, e := schema.Version(d)
		if e != api.OK && e != api.ErrLost || version != 0 && framed(header(version)) != b[:min(20, len(b))] {
			t.Fatalf("the version is %d, error %d", version, e)
		}
		wantLog(t, d, b)
		for _, v := range versions() {
			d := logOf(t, b)
			s, l, e2 := schema.Open(d, v)
			switch {
			case e != api.OK:
				wantError(t, e2, e)
			case version > v:
				wantError(t, e2, api.ErrTooNew)
			case version != 0 && version < v:
				wantError(t, e2, api.ErrOld)
			case e2 == api.OK:
				wantStore(t, d, v, l, b)
			case e2 != api.ErrLost || version == 0:
				t.Errorf("Open of V%d is error %d", v, e2)
			}
			if e2 != api.OK {
				wantLog(t, d, b)
			}
			if (s != nil) != (e2 == api.OK) || s == nil && len(l) > 0 {
				t.Errorf("V%d: a store %v, error %d", v, s != nil, e2)
			}
		}
	})
}

// wantStore holds what was opened against its file: records of their forms, and nothing torn.
func wantStore(t *testing.T, d *disk.Disk, version int, l []api.Rec, was string) {
	t.Helper()
	b, _ := d.Read("log")
	file := string(b)
	forms, whole := log.Scan(b)
	if whole != len(b) || file != fileOf(version) && !strings.HasPrefix(was, file) {
		t.Errorf("the file is %q", short(file))
	}
	for at, r := range l {
		if p := framed(plain(r, version)); !strings.Contains(file, p) {
			t.Errorf("%s isn't in the file", short(showing(r)))
		}
		if at > 0 && slices.Compare([]int{l[at-1].Id.N, l[at-1].Id.R}, []int{r.Id.N, r.Id.R}) >= 0 {
			t.Errorf("%s doesn't rise", short(showing(r)))
		}
	}
	if len(l) > len(forms)-1 || len(l) == 0 && len(forms) != 1 {
		t.Errorf("%d records of %d", len(l), len(forms)-1)
	}
}

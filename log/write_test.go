package log_test

import (
	"fmt"
	"slices"
	"strings"
	"testing"

	"stonecrop/api"
	"stonecrop/disk"
	"stonecrop/log"
)

// P13.3: a form comes behind the file's, of records of all lengths; the first one makes the file.
func TestAdd(t *testing.T) {
	d := disk.New(wide)
	g := wantOpen(t, d, "log", nil)
	want := ""
	for _, p := range append(edges(), "one", "", "three") {
		add(t, g, p)
		want += plainForm(p)
		wantFiles(t, d, map[string]string{"log": want})
	}
	wantOpen(t, d, "log", append(edges(), "one", "", "three"))
	d = disk.New(wide)
	g = wantOpen(t, d, "log", nil)
	wantError(t, g.Add(nil), api.OK)
	wantFiles(t, d, map[string]string{"log": "\x00\x52\x7d\x53\x51"})
}

// P13.3: a record that is too long is refused ahead of the disk: no file is made, and no deed is done.
func TestAddTooLong(t *testing.T) {
	for _, n := range []int{tooLong, tooLong + 1, 1 << 24} {
		d := disk.New(wide)
		g := wantOpen(t, d, "log", nil)
		d.Fuse(1)
		for range 3 {
			wantError(t, g.Add(make([]byte, n)), api.ErrLimit)
		}
		wantFiles(t, d, nil)
		add(t, g, strings.Repeat("x", api.MaxBytes))
		wantError(t, g.Add(make([]byte, n)), api.ErrLimit)
		if d.Down() {
			t.Errorf("Add of %d bytes did a deed", n)
		}
		wantError(t, g.Add(nil), api.ErrCrash)
		wantError(t, g.Add(make([]byte, n)), api.ErrLimit)
		d.Boot(nil)
		wantOpen(t, d, "log", []string{strings.Repeat("x", api.MaxBytes)})
	}
	full := disk.New(0)
	wantError(t, wantOpen(t, full, "log", nil).Add(make([]byte, tooLong)), api.ErrLimit)
	wantError(t, wantOpen(t, full, "NONE", nil).Add(make([]byte, tooLong)), api.ErrLimit)
}

// P13.3: as much room as the form takes, and one byte less.
func TestAddOnFullDisk(t *testing.T) {
	for _, p := range []string{"", "one", strings.Repeat("x", 248)} {
		there := map[string]string{"log": plainForm("there")}
		room := len(there["log"]) + len(plainForm(p))
		d := diskOf(t, room-1, there)
		g := wantOpen(t, d, "log", []string{"there"})
		wantError(t, g.Add([]byte(p)), api.ErrFull)
		wantFiles(t, d, there)
		flush(t, g)
		wantFiles(t, d, there)

		d = diskOf(t, room, there)
		g = wantOpen(t, d, "log", []string{"there"})
		add(t, g, p)
		wantError(t, g.Add(nil), api.ErrFull)
		wantOpen(t, d, "log", []string{"there", p})
	}
	d := disk.New(4)
	wantError(t, wantOpen(t, d, "log", nil).Add(nil), api.ErrFull)
	wantFiles(t, d, nil)
}

// filesBut are as many files of a disk, none of them a log.
func filesBut(count int) map[string]string {
	files := map[string]string{}
	for k := range count {
		files[fmt.Sprintf("f%02d", k)] = "x"
	}
	return files
}

// P13.3: Add answers the errors of the disk, and adds nothing with them.
func TestAddErrorsOfTheDisk(t *testing.T) {
	for _, name := range []string{"", "Log", "0123456789abcdefg"} {
		d := disk.New(wide)
		wantError(t, wantOpen(t, d, name, nil).Add([]byte("one")), api.ErrArg)
		wantFiles(t, d, nil)
	}
	d := diskOf(t, wide, filesBut(16))
	wantError(t, wantOpen(t, d, "log", nil).Add([]byte("one")), api.ErrLimit)
	wantFiles(t, d, filesBut(16))

	d = diskOf(t, wide, map[string]string{"log": plainForm("one")})
	g := wantOpen(t, d, "log", []string{"one"})
	d.Fuse(0)
	for range 3 {
		wantError(t, g.Add([]byte("two")), api.ErrCrash)
	}
	d.Boot(nil)
	wantOpen(t, d, "log", []string{"one"})
}

// P13.3: Add is one deed, whether it is taken or not.
func TestAddIsOneDeed(t *testing.T) {
	for _, name := range []string{"log", "Log"} {
		d := disk.New(30)
		g := wantOpen(t, d, name, nil)
		d.Fuse(3)
		for _, p := range []string{"one", strings.Repeat("x", 30), "two"} {
			g.Add([]byte(p))
			if d.Down() {
				t.Errorf("more deeds than Adds, at %q", p)
			}
		}
		wantError(t, g.Add(nil), api.ErrCrash)
		d.Boot(nil)
		if name == "log" {
			wantOpen(t, d, name, []string{"one", "two"})
		}
	}
}

// P13.3: Add to a log whose file isn't there any more makes it again, of that record alone.
func TestAddWithoutItsFile(t *testing.T) {
	d := disk.New(wide)
	g := wantOpen(t, d, "log", nil)
	add(t, g, "one", "two")
	flush(t, g)
	wantError(t, d.Move("log", "old"), api.OK)
	add(t, g, "three")
	wantOpen(t, d, "old", []string{"one", "two"})
	wantOpen(t, d, "log", []string{"three"})
	wantError(t, d.Remove("log"), api.OK)
	add(t, g, "", "five")
	flush(t, g)
	d.Boot([]int{0})
	wantFiles(t, d, map[string]string{"old": plainForms([]string{"one", "two"}), "log": plainForms([]string{"", "five"})})
}

// P13.3: Flush where there is no file yet is OK, and makes none; it is a deed there, too.
func TestFlushAheadOfTheFirstAdd(t *testing.T) {
	for _, name := range names() {
		d := disk.New(wide)
		g := wantOpen(t, d, name, nil)
		for range 3 {
			flush(t, g)
		}
		wantFiles(t, d, nil)
		d.Fuse(1)
		flush(t, g)
		wantError(t, g.Flush(), api.ErrCrash)
	}
}

// P13.3: what was added ahead of a Flush is sure, and nothing behind it; Flush is one deed.
func TestFlush(t *testing.T) {
	d := disk.New(wide)
	g := wantOpen(t, d, "log", nil)
	var sure []string
	for k := range 5 {
		p := strings.Repeat("x", 100*k)
		add(t, g, p, "")
		d.Fuse(1)
		flush(t, g)
		wantError(t, g.Flush(), api.ErrCrash)
		sure = append(sure, p, "")
		d.Boot([]int{0})
		g = wantOpen(t, d, "log", sure)
		add(t, g, "lost")
		d.Boot([]int{0})
		g = wantOpen(t, d, "log", sure)
	}
}

// P13.3: on a disk that is down nothing is flushed, nor where the fuse ends at it.
func TestFlushOnDiskThatIsDown(t *testing.T) {
	d := disk.New(wide)
	g := wantOpen(t, d, "log", nil)
	add(t, g, "one")
	flush(t, g)
	add(t, g, "two")
	d.Fuse(0)
	for range 3 {
		wantError(t, g.Flush(), api.ErrCrash)
	}
	d.Boot([]int{0})
	wantOpen(t, d, "log", []string{"one"})
}

// P13.3: Flush makes the log's file sure, and no other one.
func TestFlushOfOneFile(t *testing.T) {
	d := disk.New(wide)
	g, other := wantOpen(t, d, "b", nil), wantOpen(t, d, "a", nil)
	add(t, g, "one")
	add(t, other, "two")
	flush(t, g)
	d.Boot([]int{0})
	wantFiles(t, d, map[string]string{"a": "", "b": plainForm("one")})
}

// P13.3: Write makes a file of these records alone, whatever had its name, and it is sure; its .fix is there no more.
func TestWrite(t *testing.T) {
	for _, l := range [][]string{nil, {""}, {"one"}, {"one", "", "three"}, edges()} {
		for _, older := range []map[string]string{
			nil, {"log": ""}, {"log": plainForms([]string{"old", "older"})}, {"log": "torn"}, {"log.fix": "older"}, {"log.fix": ""}, {"log": plainForm("old"), "log.fix": plainForms([]string{"one", "more"})},
		} {
			d := diskOf(t, wide, older)
			wantError(t, d.Append("other", []byte("tail")), api.OK)
			wantError(t, log.Write(d, "log", lists(l)), api.OK)
			wantFiles(t, d, map[string]string{"log": plainForms(l), "other": "tail"})
			d.Boot([]int{0})
			wantFiles(t, d, map[string]string{"log": plainForms(l), "other": ""})
			wantOpen(t, d, "log", l)
		}
	}
}

// P13.3: names of up to 12 bytes have room for .fix; a log of any name is written.
func TestWriteOfNames(t *testing.T) {
	for _, name := range []string{"a", "-", ".", ".fix", "log", "log.fix", "0123456789ab"} {
		d := disk.New(wide)
		for _, l := range [][]string{{"one"}, nil, {"two", ""}} {
			wantError(t, log.Write(d, name, lists(l)), api.OK)
			wantFiles(t, d, map[string]string{name: plainForms(l)})
		}
	}
}

// P13.3: a name that .fix makes too long, or that is none, is ErrArg, and what has the name stays.
func TestWriteOfWrongNames(t *testing.T) {
	for _, name := range []string{"0123456789abc", "0123456789abcd", "0123456789abcdef", "0123456789abcdefg", strings.Repeat("a", 1000), "Log", "a b", "\xff", "log/"} {
		d := disk.New(wide)
		files := map[string]string{"log": plainForm("one")}
		if len(name) <= 16 && name[0] == '0' {
			files[name] = plainForm("old")
		}
		d = diskOf(t, wide, files)
		for _, l := range [][]string{nil, {"new"}} {
			wantError(t, log.Write(d, name, lists(l)), api.ErrArg)
			wantFiles(t, d, files)
		}
	}
	d := disk.New(wide)
	wantError(t, log.Write(d, "", lists([]string{"new"})), api.ErrArg)
	if slices.Contains(d.Names(), "") {
		t.Error("there is a file without a name")
	}
}

// P13.3: without a disk Write is ErrArg, and a record that is too long, wherever it stands, is ErrLimit; both ahead of all deeds.
func TestWriteErrorsAheadOfTheDisk(t *testing.T) {
	long := strings.Repeat("x", tooLong)
	for _, l := range [][]string{{long}, {long, "one"}, {"one", long}, {"one", "", long, "three"}, {long, long}} {
		for _, name := range []string{"log", "", "Log", "0123456789abcdef"} {
			wantError(t, log.Write(nil, name, lists(l)), api.ErrArg)
			wantError(t, log.Write(nil, name, nil), api.ErrArg)
			files := map[string]string{"log": plainForm("old"), "log.fix": "older"}
			d := diskOf(t, 20, files)
			d.Fuse(0)
			wantError(t, log.Write(d, name, lists(l)), api.ErrLimit)
			wantFiles(t, d, files)
			wantError(t, d.Sync("log"), api.ErrCrash)
			wantError(t, log.Write(d, name, lists(l)), api.ErrLimit)
		}
	}
	d := disk.New(wide)
	l := []string{"", strings.Repeat("x", api.MaxBytes), ""}
	wantError(t, log.Write(d, "log", lists(l)), api.OK)
	wantOpen(t, d, "log", l)
}

// P13.3: the new file needs room beside the old one, though not beside an older .fix; without it the old one stays.
func TestWriteWithoutRoom(t *testing.T) {
	old, l := plainForms([]string{"old", "older"}), []string{"one", "", "three"}
	room := len(old) + len(plainForms(l))
	for _, fix := range []string{"", strings.Repeat("x", len(plainForms(l))-1)} {
		files := map[string]string{"log": old, "log.fix": fix}
		d := diskOf(t, room, files)
		wantError(t, log.Write(d, "log", lists(l)), api.OK)
		wantFiles(t, d, map[string]string{"log": plainForms(l)})

		d = diskOf(t, room-1, files)
		wantError(t, log.Write(d, "log", lists(l)), api.ErrFull)
		wantOpen(t, d, "log", []string{"old", "older"})
		wantFiles(t, d, map[string]string{"log": old})
		wantError(t, log.Write(d, "log", nil), api.OK)
		wantFiles(t, d, map[string]string{"log": ""})
	}
}

// P13.3: on a disk of as many files as it has at most there is no place for .fix, unless an older one has it.
func TestWriteWithoutPlace(t *testing.T) {
	files := filesBut(15)
	files["log"] = plainForm("old")
	d := diskOf(t, wide, files)
	wantError(t, log.Write(d, "log", lists([]string{"new"})), api.ErrLimit)
	wantError(t, log.Write(d, "new", nil), api.ErrLimit)
	wantFiles(t, d, files)
	delete(files, "f00")
	files["log.fix"] = "older"
	d = diskOf(t, wide, files)
	wantError(t, log.Write(d, "log", lists([]string{"new"})), api.OK)
	delete(files, "log.fix")
	files["log"] = plainForm("new")
	wantFiles(t, d, files)
}

// P13.3: on a disk that is down Write is ErrCrash, and what there was is there again.
func TestWriteOnDiskThatIsDown(t *testing.T) {
	files := map[string]string{"log": plainForm("old"), "log.fix": "older"}
	for _, name := range []string{"log", "none", "", "0123456789abcdef"} {
		d := diskOf(t, wide, files)
		d.Fuse(0)
		for range 2 {
			wantError(t, log.Write(d, name, lists([]string{"new"})), api.ErrCrash)
		}
		d.Boot(nil)
		wantFiles(t, d, files)
	}
}

// P13.3: a log that was opened ahead of a Write goes on behind what was written.
func TestWriteUnderALog(t *testing.T) {
	d := disk.New(wide)
	g := wantOpen(t, d, "log", nil)
	add(t, g, "one", "two")
	wantError(t, log.Write(d, "log", lists([]string{"two"})), api.OK)
	add(t, g, "three")
	flush(t, g)
	d.Boot([]int{0})
	wantOpen(t, d, "log", []string{"two", "three"})
}

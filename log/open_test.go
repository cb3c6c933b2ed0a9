package log_test

import (
	"fmt"
	"strings"
	"testing"

	"stonecrop/api"
	"stonecrop/disk"
	"stonecrop/log"
)

// names are names of files, and texts that are none.
func names() []string {
	return []string{"log", "a", "0123456789abcdef", "log.fix", "-", "", "Log", "a b", "0123456789abcdefg", "\xff", strings.Repeat("a", 1000)}
}

// P13.2: without a disk there is no log, whatever the name.
func TestOpenWithoutDisk(t *testing.T) {
	for _, name := range names() {
		wantNoLog(t, nil, name, api.ErrArg)
	}
}

// P13.2: of a disk that is down there is no log, whether there is the file or not.
func TestOpenOfDiskThatIsDown(t *testing.T) {
	for _, name := range names() {
		files := map[string]string{"log": plainForms([]string{"one", "two"}), "torn": plainForm("one") + "x"}
		d := diskOf(t, wide, files)
		d.Fuse(0)
		wantError(t, d.Sync("log"), api.ErrCrash)
		wantNoLog(t, d, name, api.ErrCrash)
		wantNoLog(t, d, "torn", api.ErrCrash)
		d.Boot(nil)
		wantFiles(t, d, files)
	}
}

// P13.2: a file that there isn't has no records, and isn't made by Open; of what is no name there is none.
func TestOpenOfNoFile(t *testing.T) {
	for _, name := range names() {
		files := map[string]string{"other": plainForm("one"), "log2": "torn"}
		d := diskOf(t, 20, files)
		for _, n := range []int{-1, 0, 1} {
			d.Fuse(n)
			g := wantOpen(t, d, name, nil)
			wantFiles(t, d, files)
			if n >= 0 {
				continue
			}
			flush(t, g)
			wantFiles(t, d, files)
		}
	}
}

// P13.2: an empty file has no records.
func TestOpenOfEmptyFile(t *testing.T) {
	files := map[string]string{"log": ""}
	d := diskOf(t, 0, files)
	d.Fuse(0)
	wantOpen(t, d, "log", nil)
	wantFiles(t, d, files)
}

// P13.2: of whole records nothing is cut: Open does no deed, and doesn't make the tail sure.
func TestOpenOfWholeRecords(t *testing.T) {
	for _, l := range [][]string{{""}, {"one"}, {"one", "", "three"}, edges()} {
		files := map[string]string{"log": plainForms(l), "other": "torn"}
		d := diskOf(t, len(files["log"])+4, files)
		d.Fuse(0)
		for range 3 {
			wantOpen(t, d, "log", l)
		}
		wantFiles(t, d, files)

		d = disk.New(wide)
		wantError(t, d.Append("log", []byte(plainForms(l))), api.OK)
		wantOpen(t, d, "log", l)
		d.Boot([]int{0})
		wantFiles(t, d, map[string]string{"log": ""})
	}
}

// torns are bytes that are no forms.
func torns() []string {
	return []string{"x", "\x00", "\xff", "\x00\x52\x7d\x53\x50", plainForm("one")[:7], plainForm("one")[:3], plainForm("")[:4], "torn" + plainForm("more"), formOf("abc", "\xf8\x03"), plainForm(strings.Repeat("x", tooLong))}
}

// P13.2: bytes behind the records are cut off, though they be no tail, and what is left is sure; on a full disk, too.
func TestOpenCuts(t *testing.T) {
	for _, torn := range torns() {
		for _, l := range ahead() {
			left := map[string]string{"log": plainForms(l), "other": "torn"}
			whole := left["log"] + torn
			d := diskOf(t, len(whole)+4, map[string]string{"log": whole, "other": "torn"})
			wantError(t, d.Append("new", []byte("x")), api.ErrFull)
			wantOpen(t, d, "log", l)
			wantFiles(t, d, left)
			wantOpen(t, d, "log", l)

			d = disk.New(wide)
			wantError(t, d.Append("log", []byte(whole)), api.OK)
			wantOpen(t, d, "log", l)
			d.Boot([]int{0})
			wantFiles(t, d, map[string]string{"log": left["log"]})
		}
	}
}

// P13.2: the cut is one deed, and the only one; where it doesn't happen there is no log, and all is as it was.
func TestOpenWhereTheCutFails(t *testing.T) {
	for _, torn := range torns() {
		for _, l := range ahead() {
			files := map[string]string{"log": plainForms(l) + torn}
			d := diskOf(t, wide, files)
			d.Fuse(0)
			wantNoLog(t, d, "log", api.ErrCrash)
			wantNoLog(t, d, "log", api.ErrCrash)
			d.Boot(nil)
			wantFiles(t, d, files)
			d.Fuse(1)
			wantOpen(t, d, "log", l)
			wantOpen(t, d, "log", l)
			if d.Down() {
				t.Errorf("Open of %q did more than one deed", short(files["log"]))
			}
			wantError(t, d.Sync("log"), api.ErrCrash)
			d.Boot(nil)
			wantFiles(t, d, map[string]string{"log": plainForms(l)})
		}
	}
}

// P13.2: a log goes on behind its records, once what isn't one is cut off.
func TestOpenAndGoOn(t *testing.T) {
	for _, torn := range append(torns(), "") {
		d := diskOf(t, wide, map[string]string{"log": plainForms([]string{"one", ""}) + torn})
		g := wantOpen(t, d, "log", []string{"one", ""})
		add(t, g, "three")
		flush(t, g)
		add(t, g, "four")
		wantOpen(t, d, "log", []string{"one", "", "three", "four"})
		d.Boot([]int{0})
		wantOpen(t, d, "log", []string{"one", "", "three"})
	}
}

// P13.2: logs of one disk have nothing in common, but where they are of one file.
func TestTwoLogs(t *testing.T) {
	d := disk.New(wide)
	a, b, c := wantOpen(t, d, "a", nil), wantOpen(t, d, "b", nil), wantOpen(t, d, "a", nil)
	add(t, a, "one")
	add(t, b, "two")
	add(t, c, "three")
	flush(t, a)
	d.Boot([]int{0})
	wantOpen(t, d, "a", []string{"one", "three"})
	wantOpen(t, d, "b", nil)
	other := disk.New(wide)
	add(t, wantOpen(t, other, "a", nil), "other")
	wantOpen(t, d, "a", []string{"one", "three"})
}

// R6: the same calls have the same answers.
func TestSameAnswers(t *testing.T) {
	for range 20 {
		d := diskOf(t, wide, map[string]string{"log": plainForms([]string{"one", "two"}) + "torn", "a": "b"})
		g, l, e := log.Open(d, "log")
		got := fmt.Sprint(texts(l), e, g.Add(nil), g.Add(make([]byte, tooLong)), g.Flush(), log.Write(d, "a", l), d.Names(), d.Used())
		if got != "[one two] errno 0 errno 0 errno 12 errno 0 errno 0 [a log] 37" {
			t.Errorf("the answers are %s", got)
		}
	}
}

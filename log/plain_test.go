package log_test

import (
	"encoding/binary"
	"hash/crc32"
	"math/bits"
	"slices"
	"strings"
	"testing"

	"stonecrop/api"
	"stonecrop/disk"
	"stonecrop/log"
)

const (
	// tooLong is one byte more than a record has.
	tooLong = api.MaxBytes + 1
	// wide is room for whatever a test puts.
	wide = 1 << 30
)

// plainNumber is a number's form once more, from its bytes as the library writes them.
func plainNumber(v uint64) string {
	if v < 248 {
		return string([]byte{byte(v)})
	}
	b := binary.BigEndian.AppendUint64(nil, v)
	b = b[bits.LeadingZeros64(v)/8:]
	return string([]byte{byte(247 + len(b))}) + string(b)
}

// plainSum is the sum of a record whose number's form is number, from the library's own of that rule.
func plainSum(p, number string) string {
	s := crc32.Checksum([]byte(p+number), crc32.MakeTable(crc32.Castagnoli))
	return string(binary.BigEndian.AppendUint32(nil, s))
}

// formOf puts a record behind a number's form that may be another one's, with the sum that goes with both.
func formOf(p, number string) string { return number + plainSum(p, number) + p }

func plainForm(p string) string { return formOf(p, plainNumber(uint64(len(p)))) }

func plainForms(l []string) string {
	var b strings.Builder
	for _, p := range l {
		b.WriteString(plainForm(p))
	}
	return b.String()
}

// plainFirst tries how long a number's form may be: what begins b is a record's form if that record has this very form.
func plainFirst(b string) (p string, ok bool) {
	for size := 1; size <= 4 && size+4 <= len(b); size++ {
		n := uint64(b[0])
		if size > 1 {
			n = binary.BigEndian.Uint64([]byte(strings.Repeat("\x00", 9-size) + b[1:size]))
		}
		rest := b[size+4:]
		if n > api.MaxBytes || n > uint64(len(rest)) {
			continue
		}
		if p := rest[:n]; strings.HasPrefix(b, plainForm(p)) {
			return p, true
		}
	}
	return "", false
}

func plainScan(b string) (l []string, whole int) {
	for {
		p, ok := plainFirst(b[whole:])
		if !ok {
			return l, whole
		}
		l = append(l, p)
		whole += len(plainForm(p))
	}
}

func texts(l [][]byte) []string {
	var out []string
	for _, p := range l {
		out = append(out, string(p))
	}
	return out
}

func lists(l []string) [][]byte {
	var out [][]byte
	for _, p := range l {
		out = append(out, []byte(p))
	}
	return out
}

// short is a text that isn't too long to be shown.
func short(s string) string { return s[:min(len(s), 60)] }

func shorts(l []string) []string {
	var out []string
	for _, s := range l[:min(len(l), 20)] {
		out = append(out, short(s))
	}
	return out
}

func wantRecords(t *testing.T, got [][]byte, want []string) {
	t.Helper()
	if !slices.Equal(texts(got), want) {
		t.Errorf("%d records, %q; want %d, %q", len(got), shorts(texts(got)), len(want), shorts(want))
	}
}

func wantError(t *testing.T, got, want api.Errno) {
	t.Helper()
	if got != want {
		t.Errorf("error %d, want %d", got, want)
	}
}

// diskOf is a disk of so much room with these files, all of it sure.
func diskOf(t *testing.T, room int, files map[string]string) *disk.Disk {
	t.Helper()
	d := disk.New(room)
	for name, b := range files {
		if e := d.Append(name, []byte(b)); e != api.OK {
			t.Fatalf("Append to %q: error %d", name, e)
		}
	}
	d.Boot(nil)
	return d
}

// wantFiles holds all files of a disk against these.
func wantFiles(t *testing.T, d *disk.Disk, want map[string]string) {
	t.Helper()
	names := d.Names()
	if len(names) != len(want) {
		t.Errorf("the files are %q, want %d of them", names, len(want))
	}
	for _, name := range names {
		b, e := d.Read(name)
		if w, ok := want[name]; !ok || e != api.OK || string(b) != w {
			t.Errorf("the file %q is %q, want %q (%v)", name, short(string(b)), short(w), ok)
		}
	}
}

// wantOpen opens a log that must open, with these records.
func wantOpen(t *testing.T, d *disk.Disk, name string, want []string) *log.Log {
	t.Helper()
	g, l, e := log.Open(d, name)
	if e != api.OK || g == nil {
		t.Fatalf("Open of %q: a log %v, error %d", short(name), g != nil, e)
	}
	wantRecords(t, l, want)
	return g
}

// wantNoLog opens what must not open.
func wantNoLog(t *testing.T, d *disk.Disk, name string, want api.Errno) {
	t.Helper()
	if g, l, e := log.Open(d, name); g != nil || len(l) != 0 || e != want {
		t.Errorf("Open of %q: a log %v, %q, error %d; want error %d and nothing else", short(name), g != nil, shorts(texts(l)), e, want)
	}
}

// add adds records that must be taken.
func add(t *testing.T, g *log.Log, l ...string) {
	t.Helper()
	for _, p := range l {
		if e := g.Add([]byte(p)); e != api.OK {
			t.Fatalf("Add of %q: error %d", short(p), e)
		}
	}
}

func flush(t *testing.T, g *log.Log) {
	t.Helper()
	if e := g.Flush(); e != api.OK {
		t.Fatalf("Flush: error %d", e)
	}
}

// edges are records of as many bytes as numbers' forms have their edges at.
func edges() []string {
	var l []string
	for _, n := range []int{0, 1, 2, 246, 247, 248, 249, 254, 255, 256, 257, 65535, 65536, api.MaxBytes - 1, api.MaxBytes} {
		l = append(l, strings.Repeat("x", n))
	}
	return l
}

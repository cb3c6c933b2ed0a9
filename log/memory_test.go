package log_test

import (
	"runtime"
	"slices"
	"strings"
	"testing"

	"stonecrop/api"
	"stonecrop/disk"
	"stonecrop/log"
)

// over writes X over all of l, and behind it as far as its memory goes.
func over(l []byte) {
	l = l[:cap(l)]
	for at := range l {
		l[at] = 'X'
	}
}

// R4: Form leaves p as it was, with what lies behind it, and shares no memory with it; nor do two forms.
func TestMemoryOfForm(t *testing.T) {
	for _, n := range []int{0, 1, 3, 247, 248, 300} {
		whole := []byte(strings.Repeat("a", n) + "behind")
		p, want := whole[:n], plainForm(strings.Repeat("a", n))
		first, _ := log.Form(p)
		second, _ := log.Form(p)
		if string(whole) != strings.Repeat("a", n)+"behind" {
			t.Fatalf("what was handed in is %q", whole)
		}
		over(first)
		if string(second) != want || string(whole) != strings.Repeat("a", n)+"behind" {
			t.Errorf("writing over a form of %d bytes changes another thing", n)
		}
		over(whole)
		if string(second) != want {
			t.Errorf("writing over what was handed in changes the form of %d bytes", n)
		}
		if longer := append(second, "mine"...); string(longer) != want+"mine" {
			t.Errorf("behind a form of %d bytes something is somebody else's", n)
		}
	}
}

// R4: Scan leaves b as it was, and reads nothing behind it; its answers share no memory with b, nor with each other.
func TestMemoryOfScan(t *testing.T) {
	want := []string{"one", "", "three", "", strings.Repeat("x", 248)}
	text := plainForms(want)
	whole := []byte(text + plainForm("behind"))
	b := whole[:len(text)]
	first, _ := log.Scan(b)
	second, n := log.Scan(b)
	wantRecords(t, second, want)
	if n != len(text) || string(whole) != text+plainForm("behind") {
		t.Errorf("%d bytes are whole, and what was handed in is %q", n, short(string(whole)))
	}
	for at := range first {
		over(first[at])
		for k := range first[at+1:] {
			if string(first[at+1+k]) != want[at+1+k] {
				t.Errorf("records %d and %d share memory", at, at+1+k)
			}
		}
	}
	first[0] = []byte("mine")
	wantRecords(t, second, want)
	if string(whole) != text+plainForm("behind") {
		t.Error("writing over an answer changes what was handed in")
	}
	over(whole)
	wantRecords(t, second, want)
	for at := range second {
		second[at] = append(second[at], "mine"...)
	}
	for at, p := range want {
		if string(second[at]) != p+"mine" {
			t.Errorf("record %d is %q", at, short(string(second[at])))
		}
	}
}

// R4: Scan of bytes that a form ends in, within the memory behind them, reads no more than the bytes.
func TestScanReadsNothingBehind(t *testing.T) {
	whole := []byte(plainForm("one") + plainForm("two"))
	for n := range whole {
		l, _ := log.Scan(whole[:n])
		if len(l) != n/8 {
			t.Errorf("of %d bytes the records are %q", n, l)
		}
	}
}

// R4: what Open answers is neither the disk's nor another answer's.
func TestMemoryOfOpen(t *testing.T) {
	want := []string{"one", "", "three"}
	for _, torn := range []string{"", "torn"} {
		d := diskOf(t, wide, map[string]string{"log": plainForms(want) + torn})
		name := strings.Clone("log")
		g, first, _ := log.Open(d, name)
		_, second, _ := log.Open(d, name)
		for _, p := range first {
			over(p)
		}
		wantRecords(t, second, want)
		wantFiles(t, d, map[string]string{"log": plainForms(want)})
		wantError(t, g.Add([]byte("four")), api.OK)
		wantError(t, log.Write(d, "log", nil), api.OK)
		wantError(t, d.Remove("log"), api.OK)
		wantRecords(t, second, want)
	}
}

// R4: Add leaves p as it was, with what lies behind it, and keeps its values alone; of an Add that is refused, too.
func TestMemoryOfAdd(t *testing.T) {
	d := disk.New(100)
	g := wantOpen(t, d, "log", nil)
	whole := []byte("one behind")
	for range 3 {
		wantError(t, g.Add(whole[:3]), api.OK)
		if string(whole) != "one behind" {
			t.Fatalf("what was handed in is %q", whole)
		}
	}
	over(whole)
	wantOpen(t, d, "log", []string{"one", "one", "one"})
	flush(t, g)
	d.Boot(nil)
	wantOpen(t, d, "log", []string{"one", "one", "one"})
	long := []byte(strings.Repeat("a", 200))
	wantError(t, g.Add(long), api.ErrFull)
	d.Fuse(0)
	wantError(t, g.Add(long), api.ErrCrash)
	if string(whole) != "XXXXXXXXXX" || string(long) != strings.Repeat("a", 200) {
		t.Error("what was handed in is changed")
	}
}

// R4: Write leaves l and its records as they were, with what lies behind them, and keeps their values alone; so does one that is refused.
func TestMemoryOfWrite(t *testing.T) {
	one := []byte("one behind")
	list := [][]byte{one[:3], nil, one[:6], []byte("behind")}
	same := func() {
		t.Helper()
		if string(one) != "one behind" || len(list[0]) != 3 || list[1] != nil || len(list[2]) != 6 || string(list[3]) != "behind" {
			t.Fatalf("what was handed in is %q, %q", one, list)
		}
	}
	want := []string{"one", "", "one be"}
	d := disk.New(100)
	for range 2 {
		wantError(t, log.Write(d, "log", list[:3]), api.OK)
		same()
	}
	wantError(t, log.Write(d, "Log", list[:3]), api.ErrArg)
	wantError(t, log.Write(nil, "log", list[:3]), api.ErrArg)
	wantError(t, log.Write(d, "log", [][]byte{list[0], make([]byte, tooLong)}), api.ErrLimit)
	wantError(t, log.Write(d, "log", [][]byte{list[0], make([]byte, 200)}), api.ErrFull)
	same()
	over(one)
	list[2] = nil
	wantOpen(t, d, "log", want)
	d.Boot(nil)
	wantOpen(t, d, "log", want)
}

// inUse is how much memory is in use once what nobody has any more is gone.
func inUse() int {
	runtime.GC()
	runtime.GC()
	var m runtime.MemStats
	runtime.ReadMemStats(&m)
	return int(m.HeapAlloc)
}

const large = 1 << 24

// R4: a log keeps no more than its name: not the text that this was cut from, nor the records that Open answered.
func TestNothingElseIsKept(t *testing.T) {
	var all []string
	for range large / api.MaxBytes {
		all = append(all, strings.Repeat("x", api.MaxBytes))
	}
	d := diskOf(t, wide, map[string]string{"log": plainForms(all)})
	all = nil
	name := strings.Repeat("log", large/3)
	before := inUse()
	g, _, e := log.Open(d, name[:3])
	wantError(t, e, api.OK)
	if more := inUse() - before; more > large/4 {
		t.Errorf("behind Open %d bytes more are in use", more)
	}
	runtime.KeepAlive(name)
	name = ""
	if less := before - inUse(); less < large/2 {
		t.Errorf("the text that the name was cut from is kept: %d bytes less are in use", less)
	}
	wantError(t, g.Add(nil), api.OK)
	runtime.KeepAlive(d)
}

// R4: an empty record that Scan answers keeps nothing of the bytes that it was read from.
func TestEmptyRecordsKeepNothing(t *testing.T) {
	b := []byte(plainForm("") + strings.Repeat("x", large))
	before := inUse()
	l, _ := log.Scan(b)
	runtime.KeepAlive(b)
	b = nil
	if less := before - inUse(); less < large/2 {
		t.Errorf("%d bytes less are in use", less)
	}
	wantRecords(t, l, []string{""})
}

// R1: a record that is too long is refused ahead of making as much, and so is a number that promises more than there is.
func TestNothingAboveTheLimitIsMade(t *testing.T) {
	p := make([]byte, large)
	d := disk.New(wide)
	g := wantOpen(t, d, "log", nil)
	var before, after runtime.MemStats
	runtime.ReadMemStats(&before)
	_, e := log.Form(p)
	got := []api.Errno{e, g.Add(p), log.Write(d, "log", [][]byte{p, p})}
	for _, number := range []string{plainNumber(large), plainNumber(1 << 40), plainNumber(1<<63 - 1), plainNumber(1<<64 - 1)} {
		log.Scan([]byte(number + "1234five"))
	}
	runtime.ReadMemStats(&after)
	if !slices.Equal(got, []api.Errno{api.ErrLimit, api.ErrLimit, api.ErrLimit}) {
		t.Errorf("above the limit: %v", got)
	}
	if made := after.TotalAlloc - before.TotalAlloc; made > 1<<16 {
		t.Errorf("%d bytes of memory for what is refused", made)
	}
}

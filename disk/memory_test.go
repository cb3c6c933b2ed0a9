package disk_test

import (
	"bytes"
	"runtime"
	"slices"
	"strings"
	"testing"

	"stonecrop/api"
	"stonecrop/disk"
)

// over writes v over all of l, and behind it as far as its memory goes.
func over[T any](l []T, v T) {
	l = l[:cap(l)]
	for at := range l {
		l[at] = v
	}
}

// P12.3, R4: Append leaves b as it was, with what lies behind it, and keeps its values alone.
func TestMemoryOfAppend(t *testing.T) {
	for _, there := range []string{"", "a", strings.Repeat("a", 100)} {
		d := made(t, 1000, put("f", there))
		whole := []byte("bcd behind")
		for range 3 {
			if e := d.Append("f", whole[:3]); e != api.OK {
				t.Fatalf("error %d", e)
			}
			if string(whole) != "bcd behind" {
				t.Fatalf("what was handed in is %q", whole)
			}
		}
		want := "f=" + there + "bcdbcdbcd"
		wantShown(t, d, want)
		over(whole, 'X')
		wantShown(t, d, want)
		d.Boot([]int{len(there) + 5})
		if there != "" {
			wantShown(t, d, want[:len(want)-4])
		}
		if string(whole) != "XXXXXXXXXX" {
			t.Errorf("what was handed in is %q", whole)
		}
	}
}

// P12.3, R4: of an Append that is refused, b stays as it was, too.
func TestMemoryOfRefusedAppend(t *testing.T) {
	d := made(t, 4, put("f", "a"))
	whole := []byte("bcde behind")
	for _, name := range []string{"f", "new", "", "F"} {
		if e := d.Append(name, whole[:4]); e == api.OK {
			t.Errorf("%q is taken", name)
		}
	}
	d.Fuse(0)
	if e := d.Append("f", whole[:1]); e != api.ErrCrash || string(whole) != "bcde behind" {
		t.Errorf("what was handed in is %q, error %d", whole, e)
	}
}

// P12.2, P12.3, R4: writing over what Read answered changes neither the disk nor another answer, and what happens to the disk changes no answer.
func TestMemoryOfRead(t *testing.T) {
	for _, s := range []step{
		put("f", "gh"), put("f", strings.Repeat("x", 100)), sync("f"), cut("f", 0), cut("f", 3), move("f", "g"), move("f", "f"), move("g", "f"), remove("f"), boot(), boot(0), boot(1),
	} {
		d := made(t, 1000, put("f", "abc"), sync("f"), put("f", "def"), put("g", "other"))
		first, _ := d.Read("f")
		second, _ := d.Read("f")
		wantStep(t, d, s, api.OK)
		wantStep(t, d, put("f", "YY"), api.OK)
		wantStep(t, d, put("g", "ZZ"), api.OK)
		if string(first) != "abcdef" || string(second) != "abcdef" {
			t.Errorf("%v changes answers: %q, %q", s, first, second)
		}
		want := shown(t, d)
		over(first, 'X')
		if string(second) != "abcdef" {
			t.Errorf("two answers have one memory: %q", second)
		}
		wantShown(t, d, want)
		wantStep(t, d, put("f", "more"), api.OK)
		if !bytes.Equal(first, []byte("XXXXXX")) {
			t.Errorf("Append writes over an answer: %q", first)
		}
	}
}

// P12.2, R4: what stands behind an answer is nobody else's.
func TestMemoryBehindRead(t *testing.T) {
	d := made(t, 1000, put("f", "abc"))
	b, _ := d.Read("f")
	longer := append(b, "mine"...)
	wantStep(t, d, put("f", "its"), api.OK)
	wantShown(t, d, "f=abcits")
	if string(longer) != "abcmine" {
		t.Errorf("the answer is %q", longer)
	}
	none, _ := made(t, 10, put("f", "")).Read("f")
	if longer := append(none, 'x'); string(longer) != "x" {
		t.Errorf("the answer is %q", longer)
	}
}

// P12.2, R4: the same of Names.
func TestMemoryOfNames(t *testing.T) {
	d := made(t, 1000, put("a", "1"), put("b", "2"), put("c", "3"))
	first, second := d.Names(), d.Names()
	over(first, "X")
	want := []string{"a", "b", "c"}
	if !slices.Equal(second, want) || !slices.Equal(d.Names(), want) {
		t.Errorf("writing over an answer changes %v, %v", second, d.Names())
	}
	for _, s := range []step{put("0", ""), move("a", "z"), remove("b"), boot()} {
		wantStep(t, d, s, api.OK)
	}
	if !slices.Equal(second, want) {
		t.Errorf("the answer is %v now", second)
	}
}

// P12.3, R4: Boot leaves keeps as they were, reads nothing behind them, and keeps none of them.
func TestMemoryOfBoot(t *testing.T) {
	whole := []int{1, -1, 99, 0, 0, 0}
	for n := range 4 {
		d := made(t, 100, put("a", "abc"), put("b", "def"), put("c", "ghi"), put("d", "jkl"))
		d.Boot(whole[:n])
		want := []string{"a=abc b=def c=ghi d=jkl", "a=a b=def c=ghi d=jkl", "a=a b= c=ghi d=jkl", "a=a b= c=ghi d=jkl"}[n]
		wantShown(t, d, want)
		if !slices.Equal(whole, []int{1, -1, 99, 0, 0, 0}) {
			t.Fatalf("what was handed in is %v", whole)
		}
	}
	keeps := []int{0}
	d := made(t, 100, put("a", "abc"))
	d.Boot(keeps)
	keeps[0] = 2
	wantStep(t, d, put("a", "def"), api.OK)
	wantShown(t, d, "a=def")
	d.Boot(nil)
	wantShown(t, d, "a=def")
}

// R6: the same calls have the same answers.
func TestSameAnswers(t *testing.T) {
	for _, base := range bases() {
		want := shown(t, made(t, base.room, base.steps...))
		for range 20 {
			d := made(t, base.room, base.steps...)
			wantShown(t, d, want)
			wantShown(t, d, want)
		}
	}
}

// inUse is how much memory is in use once what nobody has any more is gone.
func inUse() int {
	runtime.GC()
	runtime.GC()
	var m runtime.MemStats
	runtime.ReadMemStats(&m)
	return int(m.HeapAlloc)
}

// R4: what a disk has no more isn't kept, nor what a name or bytes were cut from.
func TestNothingElseIsKept(t *testing.T) {
	const large = 1 << 24
	zeros := make([]byte, large)
	long := strings.Repeat("n", large)
	for _, row := range []struct {
		what string
		do   func(d *disk.Disk) api.Errno
	}{
		{"Cut", func(d *disk.Disk) api.Errno { return d.Cut("large", 1) }},
		{"Cut at 0", func(d *disk.Disk) api.Errno { return d.Cut("large", 0) }},
		{"Move", func(d *disk.Disk) api.Errno { return d.Move("small", "large") }},
		{"Remove", func(d *disk.Disk) api.Errno { return d.Remove("large") }},
		{"Boot", func(d *disk.Disk) api.Errno { d.Boot([]int{1}); return api.OK }},
		{"Boot that keeps nothing", func(d *disk.Disk) api.Errno { d.Boot([]int{0}); return api.OK }},
	} {
		d := made(t, most, put("small", "x"), sync("small"))
		before := inUse()
		if e := d.Append("large", zeros); e != api.OK || row.do(d) != api.OK {
			t.Fatalf("%s: error %d", row.what, e)
		}
		if more := inUse() - before; more > large/2 {
			t.Errorf("behind %s %d bytes more are in use", row.what, more)
		}
		runtime.KeepAlive(d)
	}
	runtime.KeepAlive(zeros)
	d := made(t, 10, put(long[:3], "a"), put("b", ""), move("b", long[:4]))
	before := inUse()
	runtime.KeepAlive(long)
	long = ""
	if less := before - inUse(); less < large/2 {
		t.Errorf("the text that a name was cut from is kept: %d bytes less are in use", less)
	}
	wantShown(t, d, "nnn=a nnnn=")
}

// R1: what is above the room is refused ahead of making as much of it.
func TestNothingAboveTheRoomIsMade(t *testing.T) {
	d := made(t, 1<<10, put("a", "x"))
	b := make([]byte, 1<<24)
	name := strings.Repeat("n", 1<<24)
	var before, after runtime.MemStats
	runtime.ReadMemStats(&before)
	got := []api.Errno{d.Append("a", b), d.Append("b", b), d.Append(name, nil), d.Move("a", name), d.Remove(name)}
	runtime.ReadMemStats(&after)
	if !slices.Equal(got, []api.Errno{api.ErrFull, api.ErrFull, api.ErrArg, api.ErrArg, api.ErrNone}) {
		t.Errorf("above the room: %v", got)
	}
	if made := after.TotalAlloc - before.TotalAlloc; made > 1<<16 {
		t.Errorf("%d bytes of memory for what is refused", made)
	}
}

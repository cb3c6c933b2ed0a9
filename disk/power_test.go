package disk_test

import (
	"slices"
	"strings"
	"testing"

	"stonecrop/api"
	"stonecrop/disk"
)

// P12.2: Read has the tail, too; of a disk that is down ErrCrash, whether there is the file or not.
func TestRead(t *testing.T) {
	d := made(t, 100, put("a", "ab"), sync("a"), put("a", "cd"), put("b", ""))
	for name, want := range map[string]string{"a": "abcd", "b": ""} {
		if b, e := d.Read(name); e != api.OK || string(b) != want {
			t.Errorf("Read of %q: %q, error %d", name, b, e)
		}
	}
	if b, e := d.Read("c"); e != api.ErrNone || len(b) != 0 {
		t.Errorf("Read of what there isn't: %q, error %d", b, e)
	}
	d.Fuse(0)
	if b, e := d.Read("a"); e != api.OK || string(b) != "abcd" {
		t.Errorf("Read with a fuse of 0: %q, error %d", b, e)
	}
	wantStep(t, d, sync("a"), api.ErrCrash)
	for _, name := range []string{"a", "b", "c", "", "A"} {
		if b, e := d.Read(name); e != api.ErrCrash || len(b) != 0 {
			t.Errorf("Read of %q of a disk that is down: %q, error %d", name, b, e)
		}
	}
}

// P12.2: Names rise by their bytes, whatever the order in which the files came; Used has the tails, too.
func TestNamesAndUsed(t *testing.T) {
	rising := []string{"-", "-a", ".", "..", "0", "00", "1", "9", "a", "a-", "a.", "a0", "aa", "b", "log", "log.fix"}
	d := disk.New(1000)
	if l := d.Names(); len(l) != 0 || d.Used() != 0 {
		t.Errorf("of an empty disk: %v, %d", l, d.Used())
	}
	for at := range rising {
		// 7 and 16 have nothing in common, so that each name comes once.
		wantStep(t, d, put(rising[at*7%16], strings.Repeat("x", at)), api.OK)
		if l := d.Names(); !slices.IsSorted(l) || len(l) != at+1 || !slices.Contains(l, rising[at*7%16]) {
			t.Errorf("behind %d files: %v", at+1, l)
		}
	}
	for range 20 {
		if l := d.Names(); !slices.Equal(l, rising) || d.Used() != 120 {
			t.Errorf("of a full disk: %v, %d", l, d.Used())
		}
	}
	d.Fuse(0)
	wantStep(t, d, sync("a"), api.ErrCrash)
	if l := d.Names(); len(l) != 0 || d.Used() != 0 {
		t.Errorf("of a disk that is down: %v, %d", l, d.Used())
	}
	d.Boot(nil)
	if l := d.Names(); !slices.Equal(l, rising) || d.Used() != 120 {
		t.Errorf("when it is back: %v, %d", l, d.Used())
	}
}

// taken and refused are deeds that the disk of deedsBase takes, and refuses with that error.
func taken() []step {
	return []step{put("a", "x"), put("new", ""), put("new", "123"), sync("a"), sync("b"), cut("a", 1), cut("a", 4), move("a", "b"), move("a", "new"), move("a", "a"), remove("a"), remove("b")}
}

func refused() map[api.Errno][]step {
	return map[api.Errno][]step{
		api.ErrArg:   {put("", "x"), put("A", ""), move("a", ""), move("b", "0123456789abcdefg")},
		api.ErrFull:  {put("a", "12345"), put("new", "12345")},
		api.ErrNone:  {sync("none"), cut("none", 0), move("none", "a"), remove("none"), sync(""), remove("")},
		api.ErrRange: {cut("a", -1), cut("a", 5), cut("b", 3)},
	}
}

func deedsBase() []step {
	return []step{put("a", "ab"), sync("a"), put("a", "cd"), put("b", "xy")}
}

const deedsRoom = 10

// P12.1: a deed that comes when the fuse is 0, or on a disk that is down, doesn't happen; what there was is there when the disk is back.
func TestDeedsWithoutPower(t *testing.T) {
	all := taken()
	for _, l := range refused() {
		all = append(all, l...)
	}
	for _, s := range all {
		d := made(t, deedsRoom, deedsBase()...)
		d.Fuse(0)
		wantShown(t, d, "a=abcd b=xy")
		for range 3 {
			wantStep(t, d, s, api.ErrCrash)
			wantShown(t, d, "down")
		}
		d.Boot(nil)
		wantShown(t, d, "a=abcd b=xy")
		d = made(t, deedsRoom, deedsBase()...)
		d.Fuse(0)
		wantStep(t, d, s, api.ErrCrash)
		d.Boot([]int{1, 0})
		wantShown(t, d, "a=abc b=")
	}
}

// P12.1, P12.2: each deed with a fuse of none, of 0 and of 1: it happens if there is one left, and the next one doesn't.
func TestFuseOfDeedsThatAreTaken(t *testing.T) {
	for _, s := range taken() {
		free := made(t, deedsRoom, append(deedsBase(), fuse(-1), s)...)
		done := shown(t, free)
		wantStep(t, free, put("b", ""), api.OK)

		d := made(t, deedsRoom, append(deedsBase(), fuse(1), s)...)
		wantShown(t, d, done)
		wantStep(t, d, put("b", ""), api.ErrCrash)
		wantShown(t, d, "down")
		d.Boot(nil)
		wantShown(t, d, done)

		d = made(t, deedsRoom, append(deedsBase(), fuse(3), put("b", ""), sync("b"), s)...)
		wantShown(t, d, done)
		wantStep(t, d, put("b", ""), api.ErrCrash)
		wantShown(t, d, "down")
	}
}

// P12.3: a deed that is refused is a deed: the fuse goes down by one, and nothing else is changed.
func TestFuseOfDeedsThatAreRefused(t *testing.T) {
	for e, l := range refused() {
		for _, s := range l {
			d := made(t, deedsRoom, deedsBase()...)
			for range 3 {
				wantStep(t, d, s, e)
			}
			for n := range 4 {
				d.Fuse(n)
				for range n {
					wantStep(t, d, s, e)
					wantShown(t, d, "a=abcd b=xy")
				}
				wantStep(t, d, sync("a"), api.ErrCrash)
				wantShown(t, d, "down")
				d.Boot(nil)
				wantShown(t, d, "a=abcd b=xy")
			}
			d = made(t, deedsRoom, deedsBase()...)
			wantStep(t, d, s, e)
			d.Boot([]int{0, 1})
			wantShown(t, d, "a=ab b=x")
		}
	}
	d := made(t, 100, rows(16, "")...)
	d.Fuse(1)
	wantStep(t, d, put("new", ""), api.ErrLimit)
	wantStep(t, d, put("new", ""), api.ErrCrash)
}

// P12.2: only deeds count: whatever is asked in between doesn't.
func TestWhatIsNoDeed(t *testing.T) {
	d := made(t, 100, put("a", "ab"))
	d.Fuse(1)
	for range 5 {
		wantShown(t, d, "a=ab")
		if _, e := d.Read("none"); e != api.ErrNone {
			t.Errorf("Read of what there isn't: error %d", e)
		}
	}
	wantStep(t, d, sync("a"), api.OK)
	d.Fuse(0)
	for range 5 {
		wantShown(t, d, "a=ab")
	}
	wantStep(t, d, sync("a"), api.ErrCrash)
}

// P12.2: a fuse below 0 is none; of two fuses the later one holds, whether deeds came between them or not.
func TestFuse(t *testing.T) {
	for _, n := range []int{-1, -2, least} {
		for _, first := range [][]int{{}, {0}, {1}, {5}} {
			d := made(t, 100, put("a", "ab"))
			for _, f := range first {
				d.Fuse(f)
			}
			d.Fuse(n)
			for range 100 {
				wantStep(t, d, put("a", ""), api.OK)
			}
		}
	}
	for _, row := range []struct{ first, between, second, left int }{
		{0, 0, 2, 2}, {1, 0, 0, 0}, {1, 1, 2, 2}, {5, 2, 0, 0}, {5, 2, 1, 1}, {2, 1, 5, 5}, {-1, 3, 1, 1}, {-1, 100, 0, 0}, {most, 3, 2, 2},
	} {
		d := made(t, 100, put("a", "ab"))
		d.Fuse(row.first)
		for range row.between {
			wantStep(t, d, sync("a"), api.OK)
		}
		d.Fuse(row.second)
		if d.Down() {
			t.Errorf("%v: it is down without a deed", row)
		}
		for range row.left {
			wantStep(t, d, put("a", "x"), api.OK)
		}
		wantStep(t, d, put("a", "x"), api.ErrCrash)
		d.Boot(nil)
		wantShown(t, d, "a=ab"+strings.Repeat("x", row.left))
	}
	d := made(t, 100, put("a", "ab"), fuse(most))
	for range 100 {
		wantStep(t, d, sync("a"), api.OK)
	}
}

// P12.2, P12.3: a fuse on a disk that is down doesn't bring it back, and is none when it is back.
func TestFuseWhileDown(t *testing.T) {
	for _, n := range []int{least, -1, 0, 1, 2, most} {
		d := made(t, 100, put("a", "ab"), fuse(0))
		wantStep(t, d, sync("a"), api.ErrCrash)
		d.Fuse(n)
		wantShown(t, d, "down")
		wantStep(t, d, sync("a"), api.ErrCrash)
		wantShown(t, d, "down")
		d.Boot([]int{1})
		for range 5 {
			wantStep(t, d, sync("a"), api.OK)
		}
		wantShown(t, d, "a=a")
	}
	d := made(t, 100, put("a", "ab"), fuse(0), boot())
	wantStep(t, d, sync("a"), api.OK)
	d = made(t, 100, put("a", "ab"), fuse(1), boot())
	for range 3 {
		wantStep(t, d, sync("a"), api.OK)
	}
}

// tails is a disk with three tails, of c, e and g; among them stand files without one.
func tails() []step {
	return []step{
		put("g", "78"), put("c", "12"), sync("c"), put("c", "345"), put("b", "xy"), sync("b"), put("d", ""), put("e", "6"), put("f", "zz"), cut("f", 1),
		put("a", "old"), move("a", "h"), put("i", "i"), sync("i"), put("i", ""),
	}
}

// keepings are numbers of kept bytes, and what is left of c, e and g then.
func keepings() []struct {
	keeps   []int
	c, e, g string
} {
	return []struct {
		keeps   []int
		c, e, g string
	}{
		{nil, "12345", "6", "78"},
		{[]int{}, "12345", "6", "78"},
		{[]int{0}, "12", "6", "78"},
		{[]int{1}, "123", "6", "78"},
		{[]int{2}, "1234", "6", "78"},
		{[]int{3}, "12345", "6", "78"},
		{[]int{4}, "12345", "6", "78"},
		{[]int{most}, "12345", "6", "78"},
		{[]int{-1}, "12", "6", "78"},
		{[]int{least}, "12", "6", "78"},
		{[]int{0, 0}, "12", "", "78"},
		{[]int{2, 1}, "1234", "6", "78"},
		{[]int{1, 0, 1}, "123", "", "7"},
		{[]int{3, 1, 2}, "12345", "6", "78"},
		{[]int{0, 0, 0}, "12", "", ""},
		{[]int{-1, least, -most}, "12", "", ""},
		{[]int{most, most, most}, "12345", "6", "78"},
		{[]int{4, 2, 3}, "12345", "6", "78"},
		{[]int{-5, 7, 1}, "12", "6", "7"},
		{[]int{1, 1, 1, 0, 0, 0, 0, 0, 0}, "123", "6", "7"},
		{[]int{1, 0, 1, -1, most, 9}, "123", "", "7"},
	}
}

// P12.3: what is kept of tails, by numbers that are too few, too many, too small and too great; on a disk that is up and on one that is down.
func TestBoot(t *testing.T) {
	for _, row := range keepings() {
		want := "b=xy c=" + row.c + " d= e=" + row.e + " f=z g=" + row.g + " h=old i=i"
		d := made(t, 100, tails()...)
		d.Boot(row.keeps)
		wantShown(t, d, want)
		d = made(t, 100, append(tails(), fuse(1), put("a", ""))...)
		wantStep(t, d, remove("c"), api.ErrCrash)
		wantStep(t, d, remove("e"), api.ErrCrash)
		d.Boot(row.keeps)
		wantShown(t, d, "a= "+want)
		d.Boot([]int{0, 0, 0})
		wantShown(t, d, "a= "+want)
	}
}

// P12.3: behind Boot all bytes are sure, the disk is up, and it goes on.
func TestBehindBoot(t *testing.T) {
	for _, row := range keepings() {
		d := made(t, 100, tails()...)
		d.Boot(row.keeps)
		want := shown(t, d)
		for range 2 {
			d.Boot([]int{0, 0, 0, 0, 0, 0, 0, 0, 0})
			wantShown(t, d, want)
		}
		wantStep(t, d, put("g", "NEW"), api.OK)
		d.Boot([]int{2, 0})
		wantShown(t, d, strings.Replace(want, "g="+row.g, "g="+row.g+"NE", 1))
	}
}

// P12.3: of an empty disk, and of one that is down twice.
func TestBootOfLittle(t *testing.T) {
	d := made(t, 10, boot(), boot(1, 2), fuse(0))
	wantStep(t, d, put("a", "ab"), api.ErrCrash)
	d.Boot([]int{1})
	wantShown(t, d, "")
	wantStep(t, d, put("a", "ab"), api.OK)
	d.Fuse(1)
	wantStep(t, d, put("a", "cd"), api.OK)
	wantStep(t, d, put("a", "ef"), api.ErrCrash)
	d.Boot([]int{3})
	wantShown(t, d, "a=abc")
	d.Fuse(0)
	wantStep(t, d, put("a", "gh"), api.ErrCrash)
	d.Boot([]int{0})
	wantShown(t, d, "a=abc")
}

// P12.3: an error leaves tails tails, and what is sure sure.
func TestErrorsLeaveTails(t *testing.T) {
	d := made(t, 10, put("a", "ab"), put("b", "cd"), sync("b"), put("b", "ef"))
	for _, s := range []step{cut("a", 3), cut("a", -1), move("a", "A"), move("b", ""), put("a", "12345"), put("", ""), sync("none"), move("none", "a"), remove("none")} {
		if s.on(d) == api.OK {
			t.Errorf("%v is taken", s)
		}
	}
	wantShown(t, d, "a=ab b=cdef")
	d.Boot([]int{1, 1})
	wantShown(t, d, "a=a b=cde")
}

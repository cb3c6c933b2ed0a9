package disk_test

import (
	"math/rand"
	"slices"
	"strings"
	"testing"

	"stonecrop/api"
	"stonecrop/disk"
)

// P12.1, P12.3: the document's example.
func TestExample(t *testing.T) {
	d := made(t, 10, put("log", "ab"), sync("log"), put("log", "cd"), boot(1))
	wantShown(t, d, "log=abc")
}

// P12.1: a disk without files, without a fuse; its room at the edges.
func TestNew(t *testing.T) {
	for _, room := range []int{0, -1, -2, least} {
		d := disk.New(room)
		wantShown(t, d, "")
		wantStep(t, d, put("a", "x"), api.ErrFull)
		wantStep(t, d, put("a", ""), api.OK)
		wantStep(t, d, put("a", "x"), api.ErrFull)
		wantShown(t, d, "a=")
	}
	d := disk.New(most)
	wantStep(t, d, put("a", strings.Repeat("x", 1<<20)), api.OK)
	wantStep(t, d, put("b", strings.Repeat("y", 1<<20)), api.OK)
	if d.Used() != 1<<21 {
		t.Errorf("Used is %d", d.Used())
	}
	for range 1000 {
		wantStep(t, d, sync("a"), api.OK)
	}
}

// P12.1, R4: two disks have nothing in common.
func TestTwoDisks(t *testing.T) {
	c, d := disk.New(2), disk.New(2)
	wantStep(t, c, put("a", "12"), api.OK)
	wantShown(t, d, "")
	wantStep(t, d, put("a", "34"), api.OK)
	c.Fuse(0)
	wantStep(t, c, remove("a"), api.ErrCrash)
	wantShown(t, c, "down")
	wantShown(t, d, "a=34")
}

// P12.1: Append comes behind a file's bytes; a file that there isn't is there then.
func TestAppend(t *testing.T) {
	d := disk.New(100)
	wantStep(t, d, put("b", ""), api.OK)
	wantShown(t, d, "b=")
	wantStep(t, d, put("b", "one"), api.OK)
	wantStep(t, d, put("a", "x"), api.OK)
	wantStep(t, d, put("b", ""), api.OK)
	wantStep(t, d, put("b", "\x00\xfftwo"), api.OK)
	wantShown(t, d, "a=x b=one\x00\xfftwo")
	if e := d.Append("c", nil); e != api.OK {
		t.Errorf("Append of nil: error %d", e)
	}
	wantShown(t, d, "a=x b=one\x00\xfftwo c=")
}

// rightNames and wrongNames are at the edges of what a name is: of each byte alone, and at either end and in the middle of a longer text.
func rightNames() []string {
	l := []string{"log", "log.fix", "...", "-", "0123456789abcdef", "ghijklmnopqrstuv", "w-x.y-z.", "................"}
	for _, c := range "abcdefghijklmnopqrstuvwxyz0123456789.-" {
		l = append(l, string(c))
	}
	return l
}

func wrongNames() []string {
	l := []string{"", "0123456789abcdefg", "-----------------", strings.Repeat("a", 1000), strings.Repeat("a", 1<<20), "\u00e4", "a b", "log/fix", "Log", "loG", "a\u0131b", "\U0001d41a", "\ufffd"}
	for c := range 256 {
		one := string([]byte{byte(c)})
		if strings.Contains("abcdefghijklmnopqrstuvwxyz0123456789.-", one) {
			continue
		}
		l = append(l, one, one+"ab", "a"+one+"b", "ab"+one, "0123456789abcde"+one)
	}
	return l
}

// P12.1: what is a name is taken by Append and as Move's to, and what is none is refused: ErrArg.
func TestNames(t *testing.T) {
	for _, name := range rightNames() {
		wantShown(t, made(t, 10, put(name, "x")), name+"=x")
		wantShown(t, made(t, 10, put("from", "x"), move("from", name)), name+"=x")
	}
	l := wrongNames()
	for _, name := range l {
		d := made(t, 10, put("from", "x"))
		wantStep(t, d, put(name, "x"), api.ErrArg)
		wantStep(t, d, put(name, ""), api.ErrArg)
		wantStep(t, d, move("from", name), api.ErrArg)
		wantShown(t, d, "from=x")
	}
	if len(l) < 5*(256-38) {
		t.Errorf("only %d are no names", len(l))
	}
}

// P12.1: as many bytes as there is room for, and one more; of all files together.
func TestRoom(t *testing.T) {
	d := disk.New(10)
	wantStep(t, d, put("a", "12345678901"), api.ErrFull)
	wantShown(t, d, "")
	wantStep(t, d, put("a", "1234567890"), api.OK)
	wantStep(t, d, put("a", ""), api.OK)
	wantStep(t, d, put("b", ""), api.OK)
	wantStep(t, d, put("a", "1"), api.ErrFull)
	wantStep(t, d, put("b", "1"), api.ErrFull)
	wantStep(t, d, put("c", "1"), api.ErrFull)
	wantShown(t, d, "a=1234567890 b=")

	d = made(t, 10, put("a", "123"), put("b", "4567"), sync("a"))
	wantStep(t, d, put("b", "8901"), api.ErrFull)
	wantStep(t, d, put("c", "8901"), api.ErrFull)
	wantShown(t, d, "a=123 b=4567")
	wantStep(t, d, put("c", "890"), api.OK)
	wantShown(t, d, "a=123 b=4567 c=890")
}

// P12.1: Cut, Move, Remove, and a tail that the power takes, give back just as much room as they free.
func TestRoomThatIsGivenBack(t *testing.T) {
	for _, row := range []struct {
		step step
		free int
	}{
		{cut("a", 6), 0}, {cut("a", 5), 1}, {cut("a", 1), 5}, {cut("a", 0), 6},
		{move("a", "b"), 4}, {move("b", "a"), 6}, {move("a", "c"), 0}, {move("a", "a"), 0},
		{remove("a"), 6}, {remove("b"), 4},
		{boot(), 0}, {boot(0), 2}, {boot(1, 1), 4}, {boot(0, 0), 6}, {sync("a"), 0},
	} {
		full := []step{put("a", "1234"), sync("a"), put("a", "56"), put("b", "7890")}
		d := made(t, 10, append(full, row.step)...)
		wantStep(t, d, put("new", strings.Repeat("n", row.free+1)), api.ErrFull)
		wantStep(t, d, put("new", strings.Repeat("n", row.free)), api.OK)
		wantStep(t, d, put("new", "n"), api.ErrFull)
		if d.Used() != 10 {
			t.Errorf("behind %v: Used is %d", row.step, d.Used())
		}
	}
}

// P12.1: a seventeenth file is refused, whatever comes into it; the sixteen take more.
func TestSeventeenthFile(t *testing.T) {
	d := made(t, 1000, rows(16, "x")...)
	wantStep(t, d, put("new", "y"), api.ErrLimit)
	wantStep(t, d, put("new", ""), api.ErrLimit)
	wantStep(t, d, put("f07", "y"), api.OK)
	wantStep(t, d, move("f00", "e"), api.OK)
	wantStep(t, d, put("new", "y"), api.ErrLimit)
	if l := d.Names(); len(l) != 16 || l[0] != "e" || d.Used() != 17 {
		t.Errorf("the files are %v", l)
	}
	wantStep(t, d, move("f01", "f02"), api.OK)
	wantStep(t, d, put("new", "y"), api.OK)
	wantStep(t, d, put("newer", "y"), api.ErrLimit)
	wantStep(t, d, remove("f03"), api.OK)
	wantStep(t, d, put("newer", "y"), api.OK)
	wantStep(t, d, put("newest", "y"), api.ErrLimit)
	wantStep(t, d, cut("f04", 0), api.OK)
	wantStep(t, d, put("newest", "y"), api.ErrLimit)
	d.Boot(nil)
	wantStep(t, d, put("newest", "y"), api.ErrLimit)
	if l := d.Names(); len(l) != 16 {
		t.Errorf("the files are %v", l)
	}
}

// P12.1, P12.2: a file that there isn't, of a name that could be one's or not: ErrNone, and nothing is changed.
func TestNoSuchFile(t *testing.T) {
	gone := []step{put("gone", "x"), remove("gone"), put("moved", "a"), move("moved", "a"), put("a", "bc")}
	names := append([]string{"none", "gone", "moved", "A", "a ", "aa"}, wrongNames()...)
	for _, name := range names {
		d := made(t, 10, gone...)
		for _, s := range []step{sync(name), cut(name, 0), cut(name, 1), cut(name, -1), move(name, "a"), move(name, "b"), move(name, name), move(name, ""), remove(name)} {
			wantStep(t, d, s, api.ErrNone)
		}
		if b, e := d.Read(name); e != api.ErrNone || len(b) != 0 {
			t.Errorf("Read of %q: %q, error %d", name, b, e)
		}
		wantShown(t, d, "a=abc")
		d.Boot([]int{0})
		wantShown(t, d, "a=a")
	}
}

// P12.1: what is synced stays whatever the power does, and nothing else is synced by it.
func TestSync(t *testing.T) {
	for _, row := range []struct {
		steps []step
		want  string
	}{
		{[]step{}, "a=ab b=xy"},
		{[]step{sync("a")}, "a=abcd b=xy"},
		{[]step{sync("b")}, "a=ab b=xyz"},
		{[]step{sync("a"), sync("b")}, "a=abcd b=xyz"},
		{[]step{sync("a"), sync("a")}, "a=abcd b=xy"},
		{[]step{sync("a"), put("a", "ef")}, "a=abcd b=xy"},
		{[]step{put("a", "ef"), sync("a"), put("a", "")}, "a=abcdef b=xy"},
		{[]step{put("new", ""), sync("new"), put("new", "n")}, "a=ab b=xy new="},
	} {
		d := made(t, 100, put("a", "ab"), sync("a"), put("a", "cd"), put("b", "xy"), sync("b"), put("b", "z"))
		for _, s := range row.steps {
			wantStep(t, d, s, api.OK)
		}
		d.Boot([]int{0, 0, 0})
		if got := shown(t, d); got != row.want {
			t.Errorf("behind %v: %q, want %q", row.steps, got, row.want)
		}
	}
}

// P12.1: Cut at each edge of a file that has sure bytes and a tail: what it shows, and what is left where the power keeps no tail.
func TestCut(t *testing.T) {
	for _, row := range []struct {
		n    int
		e    api.Errno
		want string
		kept string
	}{
		{least, api.ErrRange, "abcdef", "abcd"},
		{-most, api.ErrRange, "abcdef", "abcd"},
		{-1, api.ErrRange, "abcdef", "abcd"},
		{0, api.OK, "", ""},
		{1, api.OK, "a", "a"},
		{3, api.OK, "abc", "abc"},
		{4, api.OK, "abcd", "abcd"},
		{5, api.OK, "abcde", "abcde"},
		{6, api.OK, "abcdef", "abcdef"},
		{7, api.ErrRange, "abcdef", "abcd"},
		{1 << 32, api.ErrRange, "abcdef", "abcd"},
		{most, api.ErrRange, "abcdef", "abcd"},
	} {
		d := made(t, 100, put("m", "abcd"), sync("m"), put("m", "ef"), put("a", "gh"), put("z", "ij"))
		wantStep(t, d, cut("m", row.n), row.e)
		wantShown(t, d, "a=gh m="+row.want+" z=ij")
		d.Boot([]int{0, 0, 0})
		wantShown(t, d, "a= m="+row.kept+" z=")
	}
	d := made(t, 100, put("a", ""))
	wantStep(t, d, cut("a", 1), api.ErrRange)
	wantStep(t, d, cut("a", 0), api.OK)
	wantShown(t, d, "a=")
}

// P12.1: what is appended behind a cut is a tail behind what was left.
func TestAppendBehindCut(t *testing.T) {
	d := made(t, 100, put("a", "abcd"), sync("a"), put("a", "ef"), cut("a", 3), put("a", "XYZ"))
	wantShown(t, d, "a=abcXYZ")
	d.Boot([]int{1})
	wantShown(t, d, "a=abcX")
}

// P12.1: Move to each kind of name, of a file with a tail: what it shows, and what is left where the power keeps no tail.
func TestMove(t *testing.T) {
	for _, row := range []struct {
		from, to string
		e        api.Errno
		want     string
		kept     string
	}{
		{"m", "new", api.OK, "a=ghi new=abcd z=jk", "a=g new=abcd z="},
		{"m", "0", api.OK, "0=abcd a=ghi z=jk", "0=abcd a=g z="},
		{"m", "a", api.OK, "a=abcd z=jk", "a=abcd z="},
		{"m", "z", api.OK, "a=ghi z=abcd", "a=g z=abcd"},
		{"m", "m", api.OK, "a=ghi m=abcd z=jk", "a=g m=abcd z="},
		{"z", "m", api.OK, "a=ghi m=jk", "a=g m=jk"},
		{"a", "z", api.OK, "m=abcd z=ghi", "m=ab z=ghi"},
		{"m", "", api.ErrArg, "a=ghi m=abcd z=jk", "a=g m=ab z="},
		{"m", "M", api.ErrArg, "a=ghi m=abcd z=jk", "a=g m=ab z="},
		{"m", "0123456789abcdefg", api.ErrArg, "a=ghi m=abcd z=jk", "a=g m=ab z="},
		{"none", "a", api.ErrNone, "a=ghi m=abcd z=jk", "a=g m=ab z="},
		{"none", "none", api.ErrNone, "a=ghi m=abcd z=jk", "a=g m=ab z="},
	} {
		d := made(t, 100, put("m", "ab"), sync("m"), put("m", "cd"), put("a", "g"), sync("a"), put("a", "hi"), put("z", "jk"))
		wantStep(t, d, move(row.from, row.to), row.e)
		wantShown(t, d, row.want)
		d.Boot([]int{0, 0, 0})
		wantShown(t, d, row.kept)
	}
}

// P12.1: behind Move the old name is another file's, and the new one goes on.
func TestBehindMove(t *testing.T) {
	d := made(t, 100, put("a", "ab"), move("a", "b"), put("a", "x"), put("b", "cd"), sync("a"))
	wantShown(t, d, "a=x b=abcd")
	d.Boot([]int{1})
	wantShown(t, d, "a=x b=abc")
}

// P12.1: Remove is for sure, and a file of the name begins anew.
func TestRemove(t *testing.T) {
	d := made(t, 100, put("a", "ab"), sync("a"), put("a", "cd"), put("b", "x"), remove("a"))
	wantShown(t, d, "b=x")
	d.Boot([]int{1})
	wantShown(t, d, "b=x")
	wantStep(t, d, remove("a"), api.ErrNone)
	wantStep(t, d, put("a", "new"), api.OK)
	wantShown(t, d, "a=new b=x")
	d.Boot([]int{0})
	wantShown(t, d, "a= b=x")
}

// twoErrors are deeds of which several errors hold, but for ErrCrash, with the one that is named first; on a disk that twoErrorsBase makes.
func twoErrors() map[api.Errno][]step {
	return map[api.Errno][]step{
		api.ErrArg:  {put("", "123"), put("A", "123"), put("", ""), put("01234567890123456", "1"), put("B", strings.Repeat("x", 100))},
		api.ErrFull: {put("new", "123"), put("new", "1"), put("newer", strings.Repeat("x", 100))},
		api.ErrNone: {cut("none", -1), cut("none", 1), cut("", most), move("none", ""), move("A", "A"), move("", ""), sync(""), remove("")},
	}
}

func twoErrorsBase() []step { return rows(16, "12") }

// P12.1, R2: which error comes first where several hold; ahead of all is ErrCrash, on a disk that is down or goes down.
func TestOrderOfErrors(t *testing.T) {
	for want, l := range twoErrors() {
		for _, s := range l {
			d := made(t, 32, twoErrorsBase()...)
			before := shown(t, d)
			wantStep(t, d, s, want)
			wantShown(t, d, before)
			d.Fuse(0)
			wantStep(t, d, s, api.ErrCrash)
			wantShown(t, d, "down")
			wantStep(t, d, s, api.ErrCrash)
			d.Boot(nil)
			wantShown(t, d, before)
		}
	}
	d := made(t, 33, twoErrorsBase()...)
	wantStep(t, d, put("new", "1"), api.ErrLimit)
	wantStep(t, d, put("new", "12"), api.ErrFull)
}

// P12.1 to P12.3: each deed on each base, with each fuse, with another deed behind it, and the power behind that, against the plain disk.
func TestAgainstPlainDisk(t *testing.T) {
	second := []step{put("a", "z"), put("new", "y"), sync("c"), cut("a", 1), move("a", "c"), remove("a"), put("", "")}
	errors := map[api.Errno]int{}
	for _, base := range bases() {
		for _, n := range []int{-1, 0, 1, 2, 3} {
			for _, one := range deeds() {
				for at, two := range second {
					keeps := [][]int{nil, {0, 0, 0}, {1}, {-1, 2, 1, most}}[at%4]
					holdAgainst(t, base.room, append(slices.Clone(base.steps), fuse(n), one, two, one, boot(keeps...), one, boot(0, 1)))
				}
				p := newPlain(base.room)
				for _, s := range append(slices.Clone(base.steps), fuse(n)) {
					p.do(s)
				}
				errors[p.do(one)]++
			}
		}
	}
	for _, e := range []api.Errno{api.OK, api.ErrArg, api.ErrRange, api.ErrFull, api.ErrNone, api.ErrLimit, api.ErrCrash} {
		if errors[e] < 10 {
			t.Errorf("error %d comes %d times only", e, errors[e])
		}
	}
}

// P12.1 to P12.3: long walks of any steps, against the plain disk.
func TestWalks(t *testing.T) {
	r := rand.New(rand.NewSource(12))
	names := []string{"a", "b", "c", "d", "a.fix", "", "Z"}
	name := func() string { return names[r.Intn(len(names))] }
	for range 3000 {
		var steps []step
		for range 40 {
			s := []step{
				put(name(), strings.Repeat("x", r.Intn(4))), put(name(), string([]byte{byte(r.Intn(256)), byte(r.Intn(256))})), sync(name()), cut(name(), r.Intn(8)-1), move(name(), name()), remove(name()),
			}[r.Intn(6)]
			if r.Intn(12) == 0 {
				s = []step{fuse(r.Intn(6) - 1), boot(), boot(r.Intn(4)-1, r.Intn(4)-1, r.Intn(4))}[r.Intn(3)]
			}
			steps = append(steps, s)
		}
		holdAgainst(t, r.Intn(30), steps)
	}
}

// FuzzDisk: P12.1 to P12.3, P1: any steps, each of three bytes and a name cut from what is given.
func FuzzDisk(f *testing.F) {
	f.Add(10, []byte("\x00\x01\x02\x01\x01\x01\x00\x01\x02\x06\x01\x00"), "log")
	f.Add(-1, []byte("\x00\x01\x02\x05\x02\x00\x03\x01\x00\x04\x01\x02"), "A\xff")
	f.Add(most, []byte("\x00\x00\x00\x00\x01\x03\x04\x01\x01\x06\xff\xff"), "")
	f.Fuzz(func(t *testing.T, room int, b []byte, text string) {
		name := func(n byte) string { return text[min(int(n)/16, len(text)):min(int(n)%16+int(n)/16, len(text))] }
		var steps []step
		for ; len(b) > 2; b = b[3:] {
			n := int(int8(b[2]))
			steps = append(steps, []step{
				put(name(b[1]), text[:min(int(b[2]), len(text))]), sync(name(b[1])), cut(name(b[1]), n), move(name(b[1]), name(b[2])), remove(name(b[1])), fuse(n), boot(int(int8(b[1])), n),
			}[int(b[0])%7])
		}
		holdAgainst(t, room, steps)
	})
}

package disk_test

import (
	"cmp"
	"fmt"
	"math"
	"slices"
	"strings"
	"testing"

	"stonecrop/api"
	"stonecrop/disk"
)

const (
	most  = math.MaxInt
	least = math.MinInt
)

// step is a call that may change a disk, as a value: a deed, Fuse, or Boot.
type step struct {
	does     string
	name, to string
	b        string
	n        int
	keeps    []int
}

func put(name, b string) step     { return step{does: "Append", name: name, b: b} }
func sync(name string) step       { return step{does: "Sync", name: name} }
func cut(name string, n int) step { return step{does: "Cut", name: name, n: n} }
func move(from, to string) step   { return step{does: "Move", name: from, to: to} }
func remove(name string) step     { return step{does: "Remove", name: name} }
func fuse(n int) step             { return step{does: "Fuse", n: n} }
func boot(keeps ...int) step      { return step{does: "Boot", keeps: keeps} }

// String is short, and has no bytes that can't be shown.
func (s step) String() string {
	return fmt.Sprintf("%s(%.20q %.20q %.20q %d %v)", s.does, s.name, s.to, s.b, s.n, s.keeps)
}

// on does the step on a disk; Fuse and Boot answer OK.
func (s step) on(d *disk.Disk) api.Errno {
	switch s.does {
	case "Append":
		return d.Append(s.name, []byte(s.b))
	case "Sync":
		return d.Sync(s.name)
	case "Cut":
		return d.Cut(s.name, s.n)
	case "Move":
		return d.Move(s.name, s.to)
	case "Remove":
		return d.Remove(s.name)
	case "Fuse":
		d.Fuse(s.n)
	case "Boot":
		d.Boot(s.keeps)
	}
	return api.OK
}

// made is a disk of so much room on which these steps were done, all of which it took.
func made(t *testing.T, room int, steps ...step) *disk.Disk {
	t.Helper()
	d := disk.New(room)
	for at, s := range steps {
		if e := s.on(d); e != api.OK {
			t.Fatalf("step %d, %v: error %d", at, s, e)
		}
	}
	return d
}

// shown is all that a disk shows: its files with their bytes, or that it is down.
func shown(t *testing.T, d *disk.Disk) string {
	t.Helper()
	var l []string
	used := 0
	for _, name := range d.Names() {
		b, e := d.Read(name)
		if e != api.OK {
			t.Errorf("Read of %q, a name of Names: error %d", name, e)
		}
		used += len(b)
		l = append(l, name+"="+string(b))
	}
	if d.Used() != used {
		t.Errorf("Used is %d, and the files have %d bytes", d.Used(), used)
	}
	if d.Down() {
		l = append(l, "down")
	}
	return strings.Join(l, " ")
}

func wantShown(t *testing.T, d *disk.Disk, want string) {
	t.Helper()
	if got := shown(t, d); got != want {
		t.Errorf("it shows %q, want %q", got, want)
	}
}

func wantStep(t *testing.T, d *disk.Disk, s step, want api.Errno) {
	t.Helper()
	if e := s.on(d); e != want {
		t.Errorf("%v: error %d, want %d", s, e, want)
	}
}

// plain is a disk once more, by other means: its files stand in the order of their names, tails apart from what is sure, and errors in lists.
type plain struct {
	files []plainFile
	room  int
	left  int
	down  bool
}

type plainFile struct{ name, sure, tail string }

// fault is an error, and whether it holds.
type fault struct {
	e     api.Errno
	holds bool
}

func newPlain(room int) *plain { return &plain{room: max(room, 0), left: -1} }

func (p *plain) at(name string) int {
	return slices.IndexFunc(p.files, func(f plainFile) bool { return f.name == name })
}

func (p *plain) used() int {
	n := 0
	for _, f := range p.files {
		n += len(f.sure) + len(f.tail)
	}
	return n
}

func (p *plain) sorted() {
	slices.SortFunc(p.files, func(a, b plainFile) int { return cmp.Compare(a.name, b.name) })
}

func named(s string) bool {
	return s != "" && len(s) < 17 && strings.Trim(s, "-.0123456789abcdefghijklmnopqrstuvwxyz") == ""
}

// faults are the errors of a deed in the chapter's order, but for ErrCrash.
func (p *plain) faults(s step) []fault {
	at := p.at(s.name)
	none := fault{api.ErrNone, at < 0}
	switch s.does {
	case "Append":
		return []fault{
			{api.ErrArg, !named(s.name)},
			{api.ErrFull, len(s.b) > p.room || p.used() > p.room-len(s.b)},
			{api.ErrLimit, at < 0 && len(p.files) > 15},
		}
	case "Cut":
		return []fault{none, {api.ErrRange, at >= 0 && !(0 <= s.n && s.n <= len(p.files[at].sure+p.files[at].tail))}}
	case "Move":
		return []fault{none, {api.ErrArg, !named(s.to)}}
	}
	return []fault{none}
}

func (p *plain) do(s step) api.Errno {
	switch s.does {
	case "Fuse":
		p.left = s.n
		return api.OK
	case "Boot":
		p.boot(s.keeps)
		return api.OK
	}
	p.down = p.down || p.left == 0
	if p.down {
		return api.ErrCrash
	}
	if p.left > 0 {
		p.left--
	}
	for _, f := range p.faults(s) {
		if f.holds {
			return f.e
		}
	}
	p.change(s)
	return api.OK
}

// change does a deed that nothing speaks against.
func (p *plain) change(s step) {
	at := p.at(s.name)
	if at < 0 {
		p.files = append(p.files, plainFile{name: s.name})
		at = len(p.files) - 1
	}
	f := p.files[at]
	whole := f.sure + f.tail
	p.files = slices.Delete(p.files, at, at+1)
	switch s.does {
	case "Append":
		f.tail += s.b
	case "Sync":
		f = plainFile{name: f.name, sure: whole}
	case "Cut":
		f = plainFile{name: f.name, sure: whole[:s.n]}
	case "Move":
		p.files = slices.DeleteFunc(p.files, func(g plainFile) bool { return g.name == s.to })
		f = plainFile{name: s.to, sure: whole}
	}
	if s.does != "Remove" {
		p.files = append(p.files, f)
	}
	p.sorted()
}

func (p *plain) boot(keeps []int) {
	k := 0
	for at, f := range p.files {
		if f.tail == "" {
			continue
		}
		n := len(f.tail)
		if k < len(keeps) && keeps[k] < n {
			n = max(0, keeps[k])
		}
		k++
		p.files[at] = plainFile{name: f.name, sure: f.sure + f.tail[:n]}
	}
	p.left, p.down = -1, false
}

// shown is what a disk shows that is as p is.
func (p *plain) shown() string {
	if p.down {
		return "down"
	}
	var l []string
	for _, f := range p.files {
		l = append(l, f.name+"="+f.sure+f.tail)
	}
	return strings.Join(l, " ")
}

// holdAgainst does the steps on a disk and on a plain one, and tells of the first difference.
func holdAgainst(t *testing.T, room int, steps []step) {
	t.Helper()
	d, p := disk.New(room), newPlain(room)
	for at, s := range steps {
		e, want := s.on(d), p.do(s)
		if got := shown(t, d); e != want || got != p.shown() {
			t.Fatalf("room %d, step %d of %v: error %d, it shows %q; want %d and %q", room, at, steps, e, got, want, p.shown())
		}
		for _, name := range []string{s.name, s.to} {
			wantRead(t, d, p, name)
		}
	}
}

// wantRead holds Read of a name, which may be none, against a plain disk.
func wantRead(t *testing.T, d *disk.Disk, p *plain, name string) {
	t.Helper()
	b, e := d.Read(name)
	at := p.at(name)
	switch {
	case p.down:
		if e != api.ErrCrash || len(b) != 0 {
			t.Fatalf("Read of %q of a disk that is down: %q, error %d", name, b, e)
		}
	case at < 0:
		if e != api.ErrNone || len(b) != 0 {
			t.Fatalf("Read of %q, which there isn't: %q, error %d", name, b, e)
		}
	case e != api.OK || string(b) != p.files[at].sure+p.files[at].tail:
		t.Fatalf("Read of %q: %q, error %d, want %q", name, b, e, p.files[at].sure+p.files[at].tail)
	}
}

// rows answers files named from first on, each of these bytes.
func rows(count int, b string) []step {
	var l []step
	for k := range count {
		l = append(l, put(fmt.Sprintf("f%02d", k), b))
	}
	return l
}

// bases are disks to begin from: their room, and how they are made.
func bases() []struct {
	room  int
	steps []step
} {
	tails := []step{put("a", "ab"), sync("a"), put("a", "cd"), put("b", "sure"), sync("b"), put("c", "xyz"), put("d", "")}
	return []struct {
		room  int
		steps []step
	}{
		{20, nil},
		{0, nil},
		{20, tails},
		{11, tails},
		{most, append(slices.Clone(tails), boot(1, 0))},
		{100, rows(16, "ab")},
		{32, append(rows(16, "ab"), sync("f00"), sync("f15"), put("f07", ""))},
		{14, append(slices.Clone(tails), move("a", "z"), remove("b"), cut("c", 1))},
	}
}

// deeds are deeds of each kind, that the bases take and that they refuse.
func deeds() []step {
	return []step{
		put("a", ""), put("a", "e"), put("a", "12345678901"), put("new", ""), put("new", "nnn"), put("f07", "q"), put("", "a"), put("A", ""), put("12345678901234567", "a"),
		sync("a"), sync("b"), sync("c"), sync("f07"), sync("none"), sync(""),
		cut("a", 0), cut("a", 1), cut("a", 2), cut("a", 3), cut("a", 4), cut("a", 5), cut("a", -1), cut("c", least), cut("c", most), cut("f07", 1), cut("none", 0), cut("none", -1),
		move("a", "a"), move("a", "b"), move("a", "c"), move("c", "a"), move("c", "new"), move("c", ""), move("f07", "f08"), move("f08", "g"), move("none", "a"), move("none", "A"),
		remove("a"), remove("b"), remove("c"), remove("f07"), remove("none"), remove(""),
	}
}

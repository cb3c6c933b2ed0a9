package log_test

import (
	"math/rand"
	"slices"
	"strings"
	"testing"

	"stonecrop/api"
	"stonecrop/disk"
	"stonecrop/log"
)

// beginning is how many of these records are whole in the first n bytes of their forms.
func beginning(l []string, n int) int {
	for k, p := range l {
		n -= len(plainForm(p))
		if n < 0 {
			return k
		}
	}
	return len(l)
}

// P13.4: what was flushed is there whatever is kept of the rest, and of that a beginning, each record as a whole.
func TestWhatIsThereAgain(t *testing.T) {
	for _, flushed := range [][]string{nil, {""}, {"one", "", "three"}} {
		for _, added := range [][]string{nil, {""}, {"four"}, {"five", "", "", "seven"}, {strings.Repeat("x", 248), "y"}} {
			sure, tail := plainForms(flushed), plainForms(added)
			for keep := -1; keep <= len(tail)+1; keep++ {
				d := disk.New(wide)
				g := wantOpen(t, d, "log", nil)
				add(t, g, flushed...)
				flush(t, g)
				add(t, g, added...)
				d.Boot([]int{keep})
				k := beginning(added, max(keep, 0))
				want := slices.Concat(flushed, added[:k])
				g = wantOpen(t, d, "log", want)
				if len(flushed)+len(added) > 0 {
					wantFiles(t, d, map[string]string{"log": sure + plainForms(added[:k])})
				}
				add(t, g, "more")
				flush(t, g)
				d.Boot([]int{0})
				wantOpen(t, d, "log", append(want, "more"))
			}
		}
	}
}

// P13.4: the same of a power failure that comes with the Add, or with the Flush, or behind them.
func TestFuseWithinAddsAndFlushes(t *testing.T) {
	for n := range 10 {
		for keep := range 40 {
			d := disk.New(wide)
			g := wantOpen(t, d, "log", nil)
			d.Fuse(n)
			var sure, added []string
			for _, p := range []string{"one", "", "three", "four"} {
				if g.Add([]byte(p)) == api.OK {
					added = append(added, p)
				}
				if p != "three" && g.Flush() == api.OK {
					sure = slices.Clone(added)
				}
			}
			d.Boot([]int{keep})
			rest := added[len(sure):]
			wantOpen(t, d, "log", slices.Concat(sure, rest[:beginning(rest, keep)]))
			if len(added) != []int{0, 1, 1, 2, 2, 3, 4, 4, 4, 4}[n] || len(sure) != []int{0, 0, 1, 1, 2, 2, 2, 4, 4, 4}[n] {
				t.Errorf("with a fuse of %d %d were added, and %d flushed", n, len(added), len(sure))
			}
		}
	}
}

// P13.4: where Open is cut off, the records are all there when it is done again.
func TestFuseWithinOpen(t *testing.T) {
	for _, l := range ahead() {
		for _, torn := range append(torns(), "") {
			for n := range 2 {
				d := diskOf(t, wide, map[string]string{"log": plainForms(l) + torn})
				d.Fuse(n)
				g, got, e := log.Open(d, "log")
				if e == api.OK {
					wantRecords(t, got, l)
				} else if e != api.ErrCrash || g != nil || n > 0 || torn == "" {
					t.Errorf("Open with a fuse of %d: a log %v, error %d", n, g != nil, e)
				}
				d.Boot([]int{0})
				wantOpen(t, d, "log", l)
			}
		}
	}
}

// P13.3, P13.4: Write in its steps, with an older .fix: removed, appended, synced, moved. What there is behind each of them is what the chapter says.
func TestStepsOfWrite(t *testing.T) {
	old, l := []string{"old", "older"}, []string{"one", "", "three"}
	was, will := plainForms(old), plainForms(l)
	for keep := -1; keep <= len(will)+1; keep++ {
		kept := will[:max(0, min(keep, len(will)))]
		for n, want := range []map[string]string{
			{"log": was, "log.fix": "older"}, {"log": was}, {"log": was, "log.fix": kept}, {"log": was, "log.fix": will}, {"log": will},
		} {
			d := diskOf(t, wide, map[string]string{"log": was, "log.fix": "older"})
			d.Fuse(n)
			e := log.Write(d, "log", lists(l))
			if (e == api.OK) != (n == 4) || e != api.OK && e != api.ErrCrash {
				t.Errorf("with a fuse of %d: error %d", n, e)
			}
			d.Boot([]int{keep})
			wantFiles(t, d, want)
			wantError(t, log.Write(d, "log", lists(l)), api.OK)
			wantFiles(t, d, map[string]string{"log": will})
		}
	}
}

// P13.4: with a fuse at each of Write's deeds the old records are all there, or the new ones: these once Write answers OK.
func TestFuseWithinWrite(t *testing.T) {
	for _, older := range []map[string]string{nil, {"log.fix": plainForm("fix")}, {"log.fix": ""}} {
		for _, old := range [][]string{nil, {""}, {"old", "older"}} {
			for _, l := range [][]string{nil, {""}, {"one", "", "three"}} {
				for keep := range len(plainForms(l)) + 2 {
					e := api.ErrCrash
					for n := 0; e == api.ErrCrash; n++ {
						d := diskOf(t, wide, older)
						wantError(t, log.Write(d, "log", lists(old)), api.OK)
						for name, b := range older {
							wantError(t, d.Append(name, []byte(b)), api.OK)
						}
						d.Fuse(n)
						e = log.Write(d, "log", lists(l))
						d.Boot([]int{keep, keep, keep})
						want := old
						if e == api.OK {
							want = l
						}
						wantOpen(t, d, "log", want)
						if n > 4 {
							t.Fatalf("with a fuse of %d: error %d", n, e)
						}
					}
					wantError(t, e, api.OK)
				}
			}
		}
	}
}

// P13.4: a torn tail goes, and so does what a Write left, each time that the power fails.
func TestManyFailures(t *testing.T) {
	d := disk.New(wide)
	var want []string
	for k := range 200 {
		g := wantOpen(t, d, "log", want)
		p := strings.Repeat("x", k%7)
		add(t, g, p)
		flush(t, g)
		want = append(want, p)
		if k%5 == 0 {
			want = want[len(want)/2:]
			wantError(t, log.Write(d, "log", lists(want)), api.OK)
		}
		add(t, g, "torn", "torn")
		d.Fuse(k % 4)
		log.Write(d, "log", lists([]string{"never"}))
		d.Boot([]int{k % 9, k % 5})
	}
	wantOpen(t, d, "log", want)
}

// steps does to a disk what the chapter says, deed by deed, without a log.
type steps struct{ d *disk.Disk }

func (s steps) add(name, p string) api.Errno {
	if len(p) > api.MaxBytes {
		return api.ErrLimit
	}
	return s.d.Append(name, []byte(plainForm(p)))
}

func (s steps) flush(name string) api.Errno {
	e := s.d.Sync(name)
	if e == api.ErrNone {
		e = api.OK
	}
	return e
}

func (s steps) open(name string) ([]string, api.Errno) {
	b, e := s.d.Read(name)
	switch e {
	case api.ErrNone:
		return nil, api.OK
	case api.ErrCrash:
		return nil, e
	}
	l, whole := plainScan(string(b))
	if whole < len(b) {
		if e := s.d.Cut(name, whole); e != api.OK {
			return nil, e
		}
	}
	return l, api.OK
}

func (s steps) write(name string, l []string) api.Errno {
	fix := name + ".fix"
	for _, p := range l {
		if len(p) > api.MaxBytes {
			return api.ErrLimit
		}
	}
	for _, deed := range []func() api.Errno{
		func() api.Errno {
			if e := s.d.Remove(fix); e != api.ErrNone {
				return e
			}
			return api.OK
		},
		func() api.Errno { return s.d.Append(fix, []byte(plainForms(l))) },
		func() api.Errno { return s.d.Sync(fix) },
		func() api.Errno { return s.d.Move(fix, name) },
	} {
		if e := deed(); e != api.OK {
			return e
		}
	}
	return api.OK
}

// walker does the same with logs on one disk, and by the chapter's deeds on another one.
type walker struct {
	t    *testing.T
	d    *disk.Disk
	s    steps
	logs map[string]*log.Log
}

func newWalker(t *testing.T, room int) *walker {
	return &walker{t: t, d: disk.New(room), s: steps{disk.New(room)}, logs: map[string]*log.Log{}}
}

// onBoth does something to both disks.
func (w *walker) onBoth(do func(d *disk.Disk) api.Errno) {
	w.t.Helper()
	wantError(w.t, do(w.d), do(w.s.d))
}

func (w *walker) open(name string) {
	w.t.Helper()
	g, l, e := log.Open(w.d, name)
	want, wantE := w.s.open(name)
	wantError(w.t, e, wantE)
	wantRecords(w.t, l, want)
	delete(w.logs, name)
	if (g != nil) != (e == api.OK) {
		w.t.Errorf("Open of %q: a log %v, error %d", name, g != nil, e)
	}
	if g != nil {
		w.logs[name] = g
	}
}

func (w *walker) boot(keeps []int) {
	w.d.Boot(keeps)
	w.s.d.Boot(keeps)
	clear(w.logs)
}

// same holds the two disks against each other.
func (w *walker) same() {
	w.t.Helper()
	files := map[string]string{}
	for _, name := range w.s.d.Names() {
		b, _ := w.s.d.Read(name)
		files[name] = string(b)
	}
	wantFiles(w.t, w.d, files)
	if w.d.Down() != w.s.d.Down() {
		w.t.Errorf("it is down: %v", w.d.Down())
	}
}

// records are some records, of which few are too long.
func records(r *rand.Rand) []string {
	var l []string
	for range r.Intn(4) {
		l = append(l, strings.Repeat(string([]byte{byte(r.Intn(256))}), r.Intn(6)))
	}
	if r.Intn(100) == 0 {
		l = append(l, strings.Repeat("x", tooLong))
	}
	return l
}

// step does one thing to both.
func (w *walker) step(r *rand.Rand) {
	w.t.Helper()
	name := []string{"a", "b", "a.fix", "0123456789abc", "NONE"}[r.Intn(5)]
	g := w.logs[name]
	switch k := r.Intn(16); {
	case k < 6 && g != nil:
		for _, p := range records(r) {
			wantError(w.t, g.Add([]byte(p)), w.s.add(name, p))
		}
	case k < 9 && g != nil:
		wantError(w.t, g.Flush(), w.s.flush(name))
	case k < 11:
		l := records(r)
		wantError(w.t, log.Write(w.d, name, lists(l)), w.s.write(name, l))
	case k < 12:
		w.boot([]int{r.Intn(12) - 1, r.Intn(12), r.Intn(12)}[:r.Intn(4)])
	case k < 13:
		n := r.Intn(8) - 1
		w.onBoth(func(d *disk.Disk) api.Errno { d.Fuse(n); return api.OK })
	case k < 14 && r.Intn(4) == 0:
		w.onBoth(func(d *disk.Disk) api.Errno { return d.Append(name, []byte("\x01torn")) })
	case k < 15 && r.Intn(4) == 0:
		w.onBoth(func(d *disk.Disk) api.Errno { return d.Remove(name) })
	default:
		w.open(name)
	}
	w.same()
}

// P13.1 to P13.4: long walks of any calls, against the chapter's deeds.
func TestWalks(t *testing.T) {
	r := rand.New(rand.NewSource(132))
	for range 1500 {
		w := newWalker(t, r.Intn(150))
		for range 40 {
			w.step(r)
		}
		if t.Failed() {
			return
		}
	}
}

// promised is what must be there again of a log: what is sure, and what may be, one behind the other.
type promised struct{ sure, added []string }

// holds tells whether records are what was promised: what is sure, and a beginning of the rest.
func (p promised) holds(l []string) bool {
	return len(l) >= len(p.sure) && len(l) <= len(p.sure)+len(p.added) && slices.Equal(l, slices.Concat(p.sure, p.added)[:len(l)])
}

// life is what a program does on a disk from one power failure to the next one.
func (p *promised) life(t *testing.T, r *rand.Rand, d *disk.Disk) {
	g, l, e := log.Open(d, "log")
	if e == api.ErrCrash {
		return
	}
	if e != api.OK || !p.holds(texts(l)) {
		t.Fatalf("Open: %q, error %d; promised were %q and of %q a beginning", shorts(texts(l)), e, shorts(p.sure), shorts(p.added))
	}
	*p = promised{sure: texts(l)}
	for range r.Intn(12) {
		text := strings.Repeat(string([]byte{byte(r.Intn(3))}), r.Intn(5))
		switch r.Intn(6) {
		case 0:
			fresh := records(r)
			if log.Write(d, "log", lists(fresh)) == api.OK {
				*p = promised{sure: fresh}
			}
		case 1, 2:
			if g.Flush() == api.OK {
				*p = promised{sure: slices.Concat(p.sure, p.added)}
			}
		default:
			if g.Add([]byte(text)) == api.OK {
				p.added = append(p.added, text)
			}
		}
	}
}

// P13.4: whatever the power does, and whenever: what was promised holds, of a disk with little room, too.
func TestLives(t *testing.T) {
	r := rand.New(rand.NewSource(134))
	for range 1000 {
		d := disk.New(60 + r.Intn(400))
		var p promised
		for range 20 {
			d.Fuse(r.Intn(14) - 1)
			p.life(t, r, d)
			d.Boot([]int{r.Intn(20) - 1, r.Intn(20) - 1}[:r.Intn(3)])
		}
	}
}

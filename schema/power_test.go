package schema_test

import (
	"math/rand"
	"slices"
	"testing"

	"stonecrop/api"
	"stonecrop/disk"
	"stonecrop/schema"
)

// cutOff does something with a fuse of each number in turn, from 0 on, until it is done; behind each the power comes back, with each number of bytes kept of what isn't sure, up to tail and one more. begin makes a disk, and what is done on it.
func cutOff(t *testing.T, tail int, begin func() (d *disk.Disk, do func() api.Errno), then func(d *disk.Disk, e api.Errno)) {
	t.Helper()
	for keep := -1; keep <= tail+1; keep++ {
		e := api.ErrCrash
		for n := 0; e == api.ErrCrash; n++ {
			d, do := begin()
			d.Fuse(n)
			e = do()
			if e == api.OK && n == 0 || (e == api.OK) == d.Down() {
				t.Fatalf("with a fuse of %d: error %d, the disk is down: %v", n, e, d.Down())
			}
			d.Boot([]int{keep, keep})
			then(d, e)
			if t.Failed() {
				t.Fatalf("with a fuse of %d, and %d bytes kept", n, keep)
			}
		}
		wantError(t, e, api.OK)
	}
}

// P14.1, P14.4: Open that writes a header, cut off at each of its deeds: no store, and nothing but the header when it is done again, in either version if it wasn't whole.
func TestFuseWithinOpen(t *testing.T) {
	for _, version := range versions() {
		for _, torn := range []map[string]string{nil, {"log": ""}, {"log": "torn"}, {"log": fileOf(version)[:19]}} {
			open := func(d *disk.Disk) api.Errno {
				s, l, e := schema.Open(d, version)
				if (s != nil) != (e == api.OK) || len(l) > 0 {
					t.Errorf("a store %v, %d records, error %d", s != nil, len(l), e)
				}
				return e
			}
			begin := func() (*disk.Disk, func() api.Errno) {
				d := diskOf(t, wide, torn)
				return d, func() api.Errno { return open(d) }
			}
			cutOff(t, len(fileOf(version)), begin, func(d *disk.Disk, e api.Errno) {
				v, e2 := schema.Version(d)
				if e2 != api.OK || v != version && (v != 0 || e == api.OK) {
					t.Errorf("behind error %d the version is %d, error %d", e, v, e2)
				}
				if v == 0 {
					again := logFiles(d)
					wantOpen(t, diskOf(t, wide, again), other(version), nil)
				}
				wantOpen(t, d, version, nil)
				wantLog(t, d, fileOf(version))
			})
		}
	}
}

// logFiles are all files of a disk.
func logFiles(d *disk.Disk) map[string]string {
	files := map[string]string{}
	for _, name := range d.Names() {
		b, _ := d.Read(name)
		files[name] = string(b)
	}
	return files
}

// wantEither opens a store that has the one records, or the other ones; it answers which.
func wantEither(t *testing.T, d *disk.Disk, version int, one, two []api.Rec) (*schema.Store, []api.Rec) {
	t.Helper()
	s, l, e := schema.Open(d, version)
	if e != api.OK {
		t.Fatalf("Open of V%d: error %d", version, e)
	}
	if slices.Equal(showings(l), showings(two)) {
		return s, two
	}
	wantRecords(t, l, one)
	return s, one
}

// P14.2, P14.4: Put cut off at each of its deeds: what was acknowledged is there again, and of what wasn't the whole, or nothing.
func TestFuseWithinPut(t *testing.T) {
	for _, version := range versions() {
		for _, r := range rightOf(version) {
			for _, had := range [][]api.Rec{nil, {r}, both(), {put(r.Id, api.SCom, "older"), promise(id(1, 300), 1, 0)}} {
				begin := func() (*disk.Disk, func() api.Errno) {
					d := disk.New(wide)
					s := wantOpen(t, d, version, nil)
					putAll(t, s, had...)
					return d, func() api.Errno { return s.Put(r) }
				}
				was, will := held(had), held(append(slices.Clone(had), r))
				cutOff(t, len(framed(plain(r, version))), begin, func(d *disk.Disk, e api.Errno) {
					least := was
					if e == api.OK {
						least = will
					}
					s, is := wantEither(t, d, version, least, will)
					putAll(t, s, r)
					wantOpen(t, d, version, held(append(slices.Clone(is), r)))
				})
			}
		}
	}
}

// P14.4: the same store goes on when the power is back: bytes that were torn off within its own Put don't stand ahead of what it puts then.
func TestSameStoreGoesOn(t *testing.T) {
	torn, next, last := put(id(3, 5), api.SPre, "torn"), put(id(2, 5), api.SPre, "next"), promise(id(1, 5), 3, 1)
	for _, version := range versions() {
		for _, compact := range []bool{false, true} {
			var s *schema.Store
			begin := func() (*disk.Disk, func() api.Errno) {
				d := disk.New(wide)
				s = wantOpen(t, d, version, nil)
				putAll(t, s, last)
				return d, func() api.Errno { return s.Put(torn) }
			}
			cutOff(t, len(framed(plain(torn, version))), begin, func(d *disk.Disk, e api.Errno) {
				if compact {
					wantError(t, s.Compact(), api.OK)
				}
				putAll(t, s, next, next)
				_, l := wantEither(t, d, version, held([]api.Rec{last, next}), held([]api.Rec{last, next, torn}))
				if e == api.OK && len(l) != 3 {
					t.Error("what was acknowledged isn't there")
				}
				d.Boot([]int{0})
				wantOpen(t, d, version, l)
				wantError(t, s.Compact(), api.OK)
				wantLog(t, d, fileOf(version, l...))
			})
		}
	}
}

// P14.2: while the power is off the same store stays ErrCrash, however often it is asked, and takes what it is given behind that.
func TestSameStoreWhileDown(t *testing.T) {
	d := disk.New(wide)
	s := wantOpen(t, d, api.V1, nil)
	d.Fuse(1)
	for range 3 {
		for _, r := range both() {
			wantError(t, s.Put(r), api.ErrCrash)
		}
		wantError(t, s.Compact(), api.ErrCrash)
	}
	for n := range 3 {
		d.Boot([]int{0})
		d.Fuse(n)
		e := s.Put(both()[n])
		if e != api.OK && e != api.ErrCrash {
			t.Errorf("error %d", e)
		}
	}
	d.Boot([]int{0})
	putAll(t, s, both()...)
	wantOpen(t, d, api.V1, held(both()))
}

// P14.2, P14.4: Compact cut off at each of its deeds: the same records; done again, the file has them alone.
func TestFuseWithinCompact(t *testing.T) {
	for _, version := range versions() {
		l := rightOf(version)
		for _, had := range [][]api.Rec{nil, l[:1], append(slices.Clone(l[:3]), l[:3]...)} {
			for _, fix := range []map[string]string{nil, {"log.fix": fileOf(version, l[5])}, {"log.fix": ""}} {
				var s *schema.Store
				begin := func() (*disk.Disk, func() api.Errno) {
					d := diskOf(t, wide, fix)
					s = wantOpen(t, d, version, nil)
					putAll(t, s, had...)
					return d, s.Compact
				}
				was, will := fileOf(version, had...), fileOf(version, held(had)...)
				cutOff(t, len(will), begin, func(d *disk.Disk, e api.Errno) {
					if b := logFiles(d)["log"]; b != will && (b != was || e == api.OK) {
						t.Errorf("behind error %d the log is %q", e, short(b))
					}
					wantOpen(t, d, version, held(had))
					wantError(t, s.Compact(), api.OK)
					wantLog(t, d, will)
				})
			}
		}
	}
}

// P14.3, P14.4: Forward and Reverse cut off at each of their deeds: the store is as it was, or as it becomes; done again they come to the same.
func TestFuseWithinTurn(t *testing.T) {
	l := both()
	for version, turn := range turns() {
		for _, had := range [][]api.Rec{nil, l[:1], append(slices.Clone(l[:3]), l[:3]...)} {
			for _, files := range []map[string]string{{}, {"log.fix": fileOf(version, l[5])}, {"log.fix": ""}, {"other": "x"}} {
				was, will := fileOf(other(version), had...), fileOf(version, held(had)...)
				begin := func() (*disk.Disk, func() api.Errno) {
					files["log"] = was
					d := diskOf(t, wide, files)
					return d, func() api.Errno { return turn(d) }
				}
				cutOff(t, len(will), begin, func(d *disk.Disk, e api.Errno) {
					has := version
					if b := logFiles(d)["log"]; b != will {
						has = other(version)
						if b != was || e == api.OK {
							t.Errorf("behind error %d the log is %q", e, short(b))
						}
					}
					wantVersion(t, d, has, api.OK)
					wantOneOpens(t, d, has, held(had))
					wantError(t, turn(d), api.OK)
					wantOneOpens(t, d, version, held(had))
					if b := logFiles(d)["log"]; b != will {
						t.Errorf("done again the log is %q", short(b))
					}
				})
			}
		}
	}
}

// wantOneOpens asks that a program of the one version opens the store, and that one of the other doesn't, and changes nothing.
func wantOneOpens(t *testing.T, d *disk.Disk, version int, want []api.Rec) {
	t.Helper()
	e := api.ErrTooNew
	if version == api.V1 {
		e = api.ErrOld
	}
	was := logFiles(d)
	wantNoStore(t, d, other(version), e)
	wantOpen(t, d, version, want)
	wantFiles(t, d, was)
}

// P14.4: a power failure within a turn that is refused, or has nothing to do, finds no deed to stop.
func TestTurnThatDoesNothingNeedsNoPower(t *testing.T) {
	for version, turn := range turns() {
		for file, want := range map[string]api.Errno{
			"": api.OK, "torn": api.OK, fileOf(version, both()...): api.OK, framed("lost"): api.ErrLost, storeOf(other(version), "lost"): api.ErrLost,
		} {
			d := logOf(t, file)
			d.Fuse(0)
			wantError(t, turn(d), want)
			if d.Down() {
				t.Errorf("to V%d: a deed was done on %q", version, short(file))
			}
		}
	}
}

// lived is what must be there of a store: its records as they were put and acknowledged, one that wasn't acknowledged, and the versions that it may have (none, where no Open was acknowledged).
type lived struct {
	sure     []api.Rec
	maybe    []api.Rec
	versions []int
}

// open opens the store in the version that it has, and asks for what must be there.
func (p *lived) open(t *testing.T, d *disk.Disk, r *rand.Rand) (*schema.Store, int) {
	version, e := schema.Version(d)
	if e != api.OK || len(p.versions) > 0 && !slices.Contains(p.versions, version) {
		t.Fatalf("the version is %d, error %d; want one of %v", version, e, p.versions)
	}
	if version == 0 {
		version = api.V1 + r.Intn(2)
	}
	s, l, e := schema.Open(d, version)
	if e != api.OK {
		if e != api.ErrCrash {
			t.Fatalf("Open: error %d", e)
		}
		return nil, 0
	}
	if got := showings(l); !slices.Equal(got, showings(held(p.sure))) && !slices.Equal(got, showings(held(append(slices.Clone(p.sure), p.maybe...)))) {
		t.Fatalf("the records are %s; want %s, or with %s", shorts(got), shorts(showings(held(p.sure))), shorts(showings(p.maybe)))
	}
	*p = lived{sure: l, versions: []int{version}}
	return s, version
}

// life is what a program does on a disk from one power failure to the next one.
func (p *lived) life(t *testing.T, d *disk.Disk, r *rand.Rand) {
	s, version := p.open(t, d, r)
	for range r.Intn(12) {
		if s == nil || d.Down() {
			return
		}
		switch k := r.Intn(10); {
		case k == 0:
			wantOK(t, s.Compact())
		case k < 3:
			to := api.V1 + r.Intn(2)
			e := turns()[to](d)
			refused := to == api.V1 && slices.ContainsFunc(held(p.sure), func(r api.Rec) bool { return !hasOld(r) })
			if (e == api.ErrTag) != refused || e != api.ErrTag && e != api.OK && e != api.ErrCrash {
				t.Fatalf("the turn to V%d is error %d, of %s", to, e, shorts(showings(p.sure)))
			}
			switch e {
			case api.OK:
				p.versions = []int{to}
				s, version = p.open(t, d, r)
			case api.ErrCrash:
				p.versions = []int{version, to}
			}
		default:
			l := append(both(), newOnly()[r.Intn(6)])
			one := changed(l[r.Intn(len(l))], func(o *api.Rec) { o.Bal.Round = 2 + r.Intn(300) })
			switch e := s.Put(one); e {
			case api.OK:
				p.sure = append(p.sure, one)
			case api.ErrCrash:
				p.maybe = []api.Rec{one}
			default:
				if e != api.ErrTag || version == api.V2 || hasOld(one) {
					t.Fatalf("Put of %s in V%d: error %d", showing(one), version, e)
				}
			}
		}
	}
}

func wantOK(t *testing.T, e api.Errno) {
	t.Helper()
	if e != api.OK && e != api.ErrCrash {
		t.Fatalf("error %d", e)
	}
}

// P14.4: whatever the power does, and whenever: what was acknowledged is there again, and the store is of the one version, or of the other.
func TestLives(t *testing.T) {
	r := rand.New(rand.NewSource(144))
	turned := 0
	for range 300 {
		d := disk.New(wide)
		var p lived
		for range 20 {
			d.Fuse(r.Intn(30) - 1)
			p.life(t, d, r)
			if len(p.versions) == 2 {
				turned++
			}
			d.Boot([]int{r.Intn(200) - 1, r.Intn(200) - 1}[:r.Intn(3)])
		}
	}
	if turned < 100 {
		t.Errorf("only %d turns were cut off", turned)
	}
}

// walker holds a store on a disk against the chapter's words: a version, records as they were put, and bytes behind them.
type walker struct {
	t       *testing.T
	d       *disk.Disk
	room    int
	there   bool
	version int
	l       []api.Rec
	torn    string
	s       *schema.Store
}

func (w *walker) file() string {
	if w.version == 0 {
		return w.torn
	}
	return fileOf(w.version, w.l...) + w.torn
}

// fits tells whether there is room for so many bytes more.
func (w *walker) fits(n int) bool { return len(w.file())+n <= w.room }

func (w *walker) open(version int) {
	w.t.Helper()
	s, l, e := schema.Open(w.d, version)
	want := api.OK
	switch {
	case version < api.V1 || version > api.V2:
		want = api.ErrArg
	case w.version > version:
		want = api.ErrTooNew
	case w.version != 0 && w.version < version:
		want = api.ErrOld
	default:
		w.torn = ""
		if w.version == 0 && !w.fits(len(fileOf(version))) {
			want = api.ErrFull
			break
		}
		w.there, w.version = true, version
	}
	wantError(w.t, e, want)
	if (s != nil) != (e == api.OK) || s == nil && len(l) > 0 {
		w.t.Errorf("a store %v, %d records, error %d", s != nil, len(l), e)
	}
	if s != nil {
		w.s = s
		wantRecords(w.t, l, held(w.l))
	}
}

func (w *walker) put(r api.Rec, right bool) {
	w.t.Helper()
	want := api.OK
	switch {
	case !right:
		want = api.ErrForm
	case w.version == api.V1 && !hasOld(r):
		want = api.ErrTag
	case !w.fits(len(framed(plain(r, w.version)))):
		want = api.ErrFull
	default:
		w.l = append(w.l, r)
	}
	wantError(w.t, w.s.Put(r), want)
}

// anew is what becomes of a file that is written anew in a version.
func (w *walker) anew(version int) api.Errno {
	l := held(w.l)
	if version == api.V1 && slices.ContainsFunc(l, func(r api.Rec) bool { return !hasOld(r) }) {
		return api.ErrTag
	}
	if !w.fits(len(fileOf(version, l...))) {
		return api.ErrFull
	}
	w.version, w.l, w.torn = version, l, ""
	return api.OK
}

func (w *walker) turn(version int) {
	w.t.Helper()
	want := api.OK
	if w.version == other(version) {
		want = w.anew(version)
		w.s = nil
	}
	wantError(w.t, turns()[version](w.d), want)
}

// step does one thing to both. A store isn't asked any more once its file was turned, or torn by somebody else.
func (w *walker) step(r *rand.Rand) {
	w.t.Helper()
	k := r.Intn(20)
	switch {
	case k < 10 && w.s != nil:
		l := rightOf(api.V2)
		w.put(changed(l[r.Intn(len(l))], func(o *api.Rec) { o.Bal.Round = 2 + r.Intn(300) }), true)
	case k == 10 && w.s != nil:
		w.put(wrong()[r.Intn(len(wrong()))], false)
	case k == 11 && w.s != nil:
		wantError(w.t, w.s.Compact(), w.anew(w.version))
	case k < 14:
		w.turn(api.V1 + k%2)
	case k == 14 && w.fits(1) && r.Intn(3) == 0:
		wantError(w.t, w.d.Append("log", []byte("\x05")), api.OK)
		w.s, w.there, w.torn = nil, true, w.torn+"\x05"
	case k == 15:
		w.d.Boot(nil)
	default:
		w.open(r.Intn(4))
	}
	if b, e := w.d.Read("log"); string(b) != w.file() || (e == api.OK) != w.there {
		// A file that was there, and is empty, is what an Open without room leaves.
		w.t.Errorf("the log is %q, error %d; want %q", short(string(b)), e, short(w.file()))
	}
	wantVersion(w.t, w.d, w.version, api.OK)
}

// P14.1 to P14.3: long walks of any calls, against the chapter's words.
func TestWalks(t *testing.T) {
	r := rand.New(rand.NewSource(143))
	ends := map[int]int{}
	for range 1500 {
		room := r.Intn(3000)
		w := &walker{t: t, d: disk.New(room), room: room}
		for range 40 {
			w.step(r)
			if t.Failed() {
				return
			}
		}
		ends[w.version]++
	}
	if len(ends) != 3 {
		t.Errorf("the walks end at the versions %v", ends)
	}
}

package schema_test

import (
	"encoding/binary"
	"fmt"
	"hash/crc32"
	"math/bits"
	"slices"
	"strings"
	"testing"

	"stonecrop/api"
	"stonecrop/disk"
	"stonecrop/schema"
)

const (
	most = 1 << 40
	// wide is room for whatever a test puts.
	wide = 1 << 26
)

// plainNumber is a number's form once more, from its bytes as the library writes them.
func plainNumber(v int) string {
	if v < 248 {
		return string([]byte{byte(v)})
	}
	b := binary.BigEndian.AppendUint64(nil, uint64(v))
	b = b[bits.LeadingZeros64(uint64(v))/8:]
	return string([]byte{byte(247 + len(b))}) + string(b)
}

// framed is a record of the log once more, with its sum from the library's own of that rule.
func framed(p string) string {
	n := plainNumber(len(p))
	s := crc32.Checksum([]byte(p+n), crc32.MakeTable(crc32.Castagnoli))
	return n + string(binary.BigEndian.AppendUint32(nil, s)) + p
}

func framedAll(l []string) string {
	var b strings.Builder
	for _, p := range l {
		b.WriteString(framed(p))
	}
	return b.String()
}

// number, text and list are the forms of items once more.
func number(v int) string { return "\x00" + plainNumber(v) }

func text(s string) string { return "\x01" + plainNumber(len(s)) + s }

func list(l ...string) string { return "\x02" + plainNumber(len(l)) + strings.Join(l, "") }

func numbers(l ...int) string {
	var parts []string
	for _, v := range l {
		parts = append(parts, number(v))
	}
	return list(parts...)
}

// header is a store's header; of versions that are none it is what might be taken for one.
func header(version int) string { return list(text("stonecrop"), number(version)) }

// plain is how a record stands in a store of a version, if it does.
func plain(r api.Rec, version int) string {
	parts := []string{number(r.Id.R), number(r.Id.N), number(r.State), numbers(r.Bal.Round, r.Bal.By), numbers(r.Took.Round, r.Took.By)}
	if r.State == api.SNone {
		return list(parts...)
	}
	c, a := r.Cmd, r.Attr
	var deps []int
	for _, i := range a.Deps {
		deps = append(deps, i.R, i.N)
	}
	hangs := list(number(a.Seq), numbers(deps...))
	if version == api.V2 {
		hangs = list(number(a.Tag), number(a.Seq), numbers(deps...))
	}
	what := list(number(c.Kind), number(c.Client), number(c.Seq), text(c.Key), text(c.Val), number(c.Rev))
	return list(append(parts, what, hangs)...)
}

func plains(l []api.Rec, version int) []string {
	var out []string
	for _, r := range l {
		out = append(out, plain(r, version))
	}
	return out
}

// storeOf is the file of a store: its header, and others behind it, whatever they are.
func storeOf(version int, others ...string) string {
	return framed(header(version)) + framedAll(others)
}

// fileOf is the file of a store with these records, one behind the other.
func fileOf(version int, l ...api.Rec) string { return storeOf(version, plains(l, version)...) }

func id(r, n int) api.Id { return api.Id{R: r, N: n} }

func of(round, by int) api.Ballot { return api.Ballot{Round: round, By: by} }

// promise is a right record of SNone.
func promise(i api.Id, round, by int) api.Rec { return api.Rec{Id: i, Bal: of(round, by)} }

// put is a right record with a command, of TagSeq.
func put(i api.Id, state int, val string) api.Rec {
	return api.Rec{
		Id: i, State: state, Bal: of(2, 1), Took: of(1, 4),
		Cmd:  api.Cmd{Kind: api.KPut, Client: 1, Seq: 1, Key: "k", Val: val},
		Attr: api.Attr{Deps: []api.Id{id(2, 300), id(0, 301)}, Seq: 4, Tag: api.TagSeq},
	}
}

func changed(r api.Rec, change func(r *api.Rec)) api.Rec {
	r.Attr.Deps = slices.Clone(r.Attr.Deps)
	change(&r)
	return r
}

// byId is a record of TagId.
func byId(r api.Rec) api.Rec {
	return changed(r, func(r *api.Rec) { r.Attr.Tag, r.Attr.Seq = api.TagId, 0 })
}

// barrier is a record of a KBarrier.
func barrier(r api.Rec) api.Rec {
	return changed(r, func(r *api.Rec) { r.Cmd = api.Cmd{Kind: api.KBarrier} })
}

// greatest has as many ids as there may be, and all else as great as it may be.
func greatest() api.Rec {
	r := put(id(6, most), api.SCom, strings.Repeat("\xff", api.MaxVal))
	r.Bal, r.Took = of(most, 6), of(most, 6)
	r.Cmd.Client, r.Cmd.Seq, r.Cmd.Key = api.MaxClient, most, strings.Repeat("k", api.MaxKey)
	r.Attr.Seq, r.Attr.Deps = most, nil
	for k := range api.MaxDeps {
		r.Attr.Deps = append(r.Attr.Deps, id(k%7, most-5000+k/7))
	}
	return r
}

// both are right records that have an old form; no two have the same Id, and they don't rise.
func both() []api.Rec {
	return []api.Rec{
		put(id(3, 5), api.SPre, "v"),
		promise(id(1, 5), 3, 1),
		changed(put(id(6, most), api.SAcc, ""), func(r *api.Rec) { r.Attr.Deps = nil }),
		{},
		put(id(0, 6), api.SCom, "\x00\xff"),
		changed(put(id(4, 4), api.SCom, ""), func(r *api.Rec) { r.Cmd = api.Cmd{} }),
		promise(id(6, 0), most, 6),
		changed(put(id(2, 5), api.SAcc, ""), func(r *api.Rec) { r.Cmd = api.Cmd{Kind: api.KFind, Client: 2, Seq: 9} }),
	}
}

// newOnly are right records that have no old form, of the Ids of others in both and of Ids of their own.
func newOnly() []api.Rec {
	return []api.Rec{
		byId(put(id(3, 5), api.SPre, "v")),
		barrier(put(id(1, 5), api.SAcc, "")),
		barrier(byId(put(id(0, 6), api.SCom, ""))),
		byId(put(id(5, 77), api.SCom, "w")),
		barrier(put(id(5, 78), api.SPre, "")),
		changed(byId(put(id(5, 79), api.SAcc, "")), func(r *api.Rec) { r.Attr.Deps = nil }),
	}
}

// wrong are records that aren't right; some wouldn't have an old form either.
func wrong() []api.Rec {
	base := put(id(3, 5), api.SAcc, "v")
	var l []api.Rec
	for _, change := range []func(r *api.Rec){
		func(r *api.Rec) { r.Id.R = 7 },
		func(r *api.Rec) { r.Id.R = -1 },
		func(r *api.Rec) { r.Id.N = -1 },
		func(r *api.Rec) { r.Id.N = most + 1 },
		func(r *api.Rec) { r.State = 4 },
		func(r *api.Rec) { r.State = -1 },
		func(r *api.Rec) { r.State = api.SNone },
		func(r *api.Rec) { r.Bal = of(1, 3) },
		func(r *api.Rec) { r.Bal.By = 7 },
		func(r *api.Rec) { r.Took.By = -1 },
		func(r *api.Rec) { r.Cmd = api.Cmd{Kind: 7} },
		func(r *api.Rec) { r.Cmd.Seq = 0 },
		func(r *api.Rec) { r.Cmd.Val = strings.Repeat("v", api.MaxVal+1) },
		func(r *api.Rec) { r.Cmd.Key = "" },
		func(r *api.Rec) { r.Attr.Tag = 0 },
		func(r *api.Rec) { r.Attr.Tag = 3 },
		func(r *api.Rec) { r.Attr.Seq = 0 },
		func(r *api.Rec) { r.Attr.Seq = most + 1 },
		func(r *api.Rec) { r.Attr.Tag = api.TagId },
		func(r *api.Rec) { r.Attr.Deps[0] = r.Id },
		func(r *api.Rec) { slices.Reverse(r.Attr.Deps) },
		func(r *api.Rec) { r.Attr.Deps = append(greatest().Attr.Deps, id(6, most)) },
		func(r *api.Rec) { r.Cmd = api.Cmd{Kind: api.KBarrier, Key: "k"} },
		func(r *api.Rec) { r.Cmd, r.Attr.Seq = api.Cmd{Kind: api.KBarrier}, 0 },
	} {
		l = append(l, changed(base, change))
	}
	none := promise(id(1, 5), 3, 1)
	return append(l,
		changed(none, func(r *api.Rec) { r.Took = of(1, 0) }),
		changed(none, func(r *api.Rec) { r.Attr.Tag = api.TagSeq }),
		changed(none, func(r *api.Rec) { r.Attr.Tag = api.TagId }),
		changed(none, func(r *api.Rec) { r.Cmd.Kind = api.KBarrier }),
		changed(none, func(r *api.Rec) { r.Attr.Deps = []api.Id{{}} }))
}

// held are the records of a store in which these were put one behind the other: of each Id the last one, in the order of their Ids.
func held(l []api.Rec) []api.Rec {
	var out []api.Rec
	for at, r := range l {
		if !slices.ContainsFunc(l[at+1:], func(later api.Rec) bool { return later.Id == r.Id }) {
			out = append(out, r)
		}
	}
	slices.SortFunc(out, func(a, b api.Rec) int {
		return slices.Compare([]int{a.Id.N, a.Id.R}, []int{b.Id.N, b.Id.R})
	})
	return out
}

// showing is a record as the chapters write it, so that two that show alike are the same.
func showing(r api.Rec) string {
	return fmt.Sprintf("%d.%d state %d bal %v took %v cmd %d %d %d %q %q %d attr %d %d %v", r.Id.R, r.Id.N, r.State, r.Bal, r.Took,
		r.Cmd.Kind, r.Cmd.Client, r.Cmd.Seq, r.Cmd.Key, r.Cmd.Val, r.Cmd.Rev, r.Attr.Tag, r.Attr.Seq, append([]api.Id{}, r.Attr.Deps...))
}

func showings(l []api.Rec) []string {
	var out []string
	for _, r := range l {
		out = append(out, showing(r))
	}
	return out
}

// short is a text that isn't too long to be shown.
func short(s string) string { return s[:min(len(s), 200)] }

func shorts(l []string) string { return short(strings.Join(l, "; ")) }

func wantRecords(t *testing.T, got, want []api.Rec) {
	t.Helper()
	if g, w := showings(got), showings(want); !slices.Equal(g, w) {
		t.Errorf("%d records, %s; want %d, %s", len(g), shorts(g), len(w), shorts(w))
	}
}

func wantError(t *testing.T, got, want api.Errno) {
	t.Helper()
	if got != want {
		t.Errorf("error %d, want %d", got, want)
	}
}

// diskOf is a disk of so much room with these files, all of it sure.
func diskOf(t *testing.T, room int, files map[string]string) *disk.Disk {
	t.Helper()
	d := disk.New(room)
	for name, b := range files {
		if e := d.Append(name, []byte(b)); e != api.OK {
			t.Fatalf("Append to %q: error %d", name, e)
		}
	}
	d.Boot(nil)
	return d
}

// logOf is a wide disk with a log alone.
func logOf(t *testing.T, b string) *disk.Disk {
	t.Helper()
	return diskOf(t, wide, map[string]string{"log": b})
}

// wantFiles holds all files of a disk against these.
func wantFiles(t *testing.T, d *disk.Disk, want map[string]string) {
	t.Helper()
	names := d.Names()
	if len(names) != len(want) {
		t.Errorf("the files are %q, want %d of them", names, len(want))
	}
	for _, name := range names {
		b, e := d.Read(name)
		if w, ok := want[name]; !ok || e != api.OK || string(b) != w {
			t.Errorf("the file %q is %q, want %q (%v)", name, short(string(b)), short(w), ok)
		}
	}
}

// wantLog holds a disk's files against a log alone.
func wantLog(t *testing.T, d *disk.Disk, want string) {
	t.Helper()
	wantFiles(t, d, map[string]string{"log": want})
}

func wantVersion(t *testing.T, d *disk.Disk, want int, wantE api.Errno) {
	t.Helper()
	if v, e := schema.Version(d); v != want || e != wantE {
		t.Errorf("Version is %d, error %d; want %d, error %d", v, e, want, wantE)
	}
}

// wantOpen opens a store that must open, with these records.
func wantOpen(t *testing.T, d *disk.Disk, version int, want []api.Rec) *schema.Store {
	t.Helper()
	s, l, e := schema.Open(d, version)
	if e != api.OK || s == nil {
		t.Fatalf("Open of V%d: a store %v, error %d", version, s != nil, e)
	}
	wantRecords(t, l, want)
	return s
}

// wantNoStore opens what must not open.
func wantNoStore(t *testing.T, d *disk.Disk, version int, want api.Errno) {
	t.Helper()
	if s, l, e := schema.Open(d, version); s != nil || len(l) != 0 || e != want {
		t.Errorf("Open of V%d: a store %v, %s, error %d; want error %d and nothing else", version, s != nil, shorts(showings(l)), e, want)
	}
}

// putAll puts records that must be taken.
func putAll(t *testing.T, s *schema.Store, l ...api.Rec) {
	t.Helper()
	for _, r := range l {
		if e := s.Put(r); e != api.OK {
			t.Fatalf("Put of %s: error %d", short(showing(r)), e)
		}
	}
}

// down lets the power of a disk fail.
func down(t *testing.T, d *disk.Disk) {
	t.Helper()
	d.Fuse(0)
	if d.Sync("log"); !d.Down() {
		t.Fatal("the disk isn't down")
	}
}

// versions are those that there are.
func versions() []int { return []int{api.V1, api.V2} }

// rightOf are right records that have a form in that version.
func rightOf(version int) []api.Rec {
	if version == api.V1 {
		return both()
	}
	return append(both(), newOnly()...)
}

// torns are bytes of which no beginning is a whole record.
func torns() []string {
	whole := framed(header(api.V1))
	last := len(whole) - 1
	return []string{"\x00", "x", whole[:1], whole[:5], whole[:last], whole[:last] + string([]byte{whole[last] ^ 1}), "\x05torn", "\xff\xff\xff"}
}

// noHeaders are bytes that aren't a header, of a first record.
func noHeaders() []string {
	h := header(api.V1)
	return []string{
		list(text("stonecroq"), number(1)), list(text("Stonecrop"), number(1)), list(text("stonecrop "), number(1)),
		list(text("stonecro"), number(1)), list(text(""), number(2)),
		header(0), header(3), header(257), header(most), list(text("stonecrop"), "\x00\xff\xff\xff\xff\xff\xff\xff\xff\xff"),
		list(), list(text("stonecrop")), list(number(1)), list(text("stonecrop"), number(1), number(1)), list(text("stonecrop"), number(2), list()),
		list(number(1), text("stonecrop")), list(text("stonecrop"), text("1")), list(text("stonecrop"), text("\x01")), list(number(1), number(1)),
		list(text("stonecrop"), list(number(1))), list(list(text("stonecrop"), number(1))),
		text("stonecrop"), number(1), number(2), text(h),
		"", "\x03", "\xff", "stonecrop", "\x01", "\x02\x02\x01\x09stonecrop\x00\xf8\x01", "\x03\x02\x01\x09stonecrop\x00\x01",
		h + "\x00", h + h, header(2) + "\x02", h[:len(h)-1], h[1:],
		plain(promise(id(1, 2), 3, 1), 1), plain(put(id(1, 2), api.SCom, "v"), 1), plain(put(id(1, 2), api.SCom, "v"), 2),
	}
}

// strangers are bytes that are no record of that version's.
func strangers(version int) []string {
	r := put(id(3, 5), api.SAcc, "v")
	right := plain(r, version)
	l := []string{
		plain(r, api.V1+api.V2-version), plain(greatest(), api.V1+api.V2-version),
		"", "\x03", "\xff", "v", right + "\x00", right + right, right[:len(right)-1], "\x03" + right[1:],
		plain(promise(id(1, 2), 3, 1), version) + "\x00",
		header(api.V1), header(api.V2), number(0), text("v"), list(), list(right), number(1 << 39), text(right),
	}
	if version == api.V1 {
		l = append(l, plains([]api.Rec{barrier(r)}, api.V1)...)
		l = append(l, plains(newOnly(), api.V2)...)
	}
	for _, r := range wrong() {
		if inForm(r, version) && min(r.Id.R, r.Id.N, r.State, r.Took.By) >= 0 {
			l = append(l, plain(r, version))
		}
	}
	return l
}

// inForm tells whether what makes a record wrong is in its form, too: of SNone no Cmd and Attr are, and no Tag in the old form.
func inForm(r api.Rec, version int) bool {
	if r.State == api.SNone {
		return r.Took != of(0, 0)
	}
	return version == api.V2 || r.Attr.Tag == api.TagSeq
}

package cmd_test

import (
	"fmt"
	"math"
	"math/rand"
	"runtime"
	"slices"
	"strings"
	"testing"
	"unicode/utf8"

	"stonecrop/api"
	"stonecrop/cmd"
	"stonecrop/codec"
)

const (
	mostClient = 1 << 20
	most       = 1 << 40
)

// kinds are those that there are, others are some that there are none of.
func kinds() []int { return []int{0, 1, 2, 3, 4, 5, 6} }

func others() []int {
	return []int{-1, 7, 8, -2, -6, 256, 1 << 32, 1<<32 + 1, math.MinInt, math.MaxInt}
}

// fields are the names of a command's parts, by what a Kind has of them.
type fields struct{ key, beginning, val, rev, client bool }

// named is what each Kind names, as the document lists it.
func named(kind int) (fields, bool) {
	f, ok := map[int]fields{
		0: {},
		1: {key: true, client: true},
		2: {key: true, val: true, client: true},
		3: {key: true, client: true},
		4: {key: true, val: true, rev: true, client: true},
		5: {beginning: true, client: true},
		6: {},
	}[kind]
	return f, ok
}

// beginning and key are the document's words of layer 4 once more, by other means.
func beginning(s string) bool {
	return utf8.ValidString(s) && utf8.RuneCountInString(s) <= 32 && !strings.ContainsFunc(s, func(r rune) bool { return r <= 0x1f || r == 0x7f })
}

func key(s string) bool { return len(s) > 0 && beginning(s) }

// formed, ranged and checked are this layer's words once more.
func formed(c api.Cmd) bool {
	f, ok := named(c.Kind)
	if !ok || !f.val && len(c.Val) > 0 || !f.rev && c.Rev != 0 || !f.key && !f.beginning && len(c.Key) > 0 {
		return false
	}
	if f.client {
		return c.Client != 0 && c.Seq != 0
	}
	return c.Client == 0 && c.Seq == 0
}

func ranged(c api.Cmd) bool {
	return !(c.Client < 0 || c.Client > mostClient || c.Seq < 0 || c.Seq > most || c.Rev < 0 || c.Rev > most)
}

func checked(c api.Cmd) api.Errno {
	if !formed(c) {
		return api.ErrForm
	}
	if !ranged(c) {
		return api.ErrRange
	}
	if len(c.Val) > 1024 {
		return api.ErrLimit
	}
	if f, _ := named(c.Kind); f.key && !key(c.Key) || f.beginning && !beginning(c.Key) {
		return api.ErrKey
	}
	return api.OK
}

func writes(c api.Cmd) bool { return slices.Contains([]int{2, 3, 4}, c.Kind) }

// opens tells whether s begins with with, byte by byte.
func opens(s, with string) bool {
	for at := range len(with) {
		if at >= len(s) || s[at] != with[at] {
			return false
		}
	}
	return true
}

func meet(a, b api.Cmd) bool {
	if a.Kind == 0 || b.Kind == 0 {
		return false
	}
	if a.Kind == 6 || b.Kind == 6 {
		return true
	}
	if a.Client == b.Client {
		return true
	}
	if !writes(a) && !writes(b) {
		return false
	}
	if a.Key == b.Key {
		return true
	}
	return a.Kind == 5 && opens(b.Key, a.Key) || b.Kind == 5 && opens(a.Key, b.Key)
}

// right is a right command of that Kind, with nothing at an edge.
func right(kind int) api.Cmd {
	c := api.Cmd{Kind: kind}
	f, _ := named(kind)
	if f.client {
		c.Client, c.Seq, c.Key = 7, 9, "ab"
	}
	if f.val {
		c.Val = "v\x00\xff"
	}
	if f.rev {
		c.Rev = 5
	}
	return c
}

// with is c after a change.
func with(c api.Cmd, change func(*api.Cmd)) api.Cmd {
	change(&c)
	return c
}

func short(c api.Cmd) string {
	if len(c.Key)+len(c.Val) > 200 {
		return fmt.Sprintf("kind %d of %d.%d, %d bytes of key, %d of value, revision %d", c.Kind, c.Client, c.Seq, len(c.Key), len(c.Val), c.Rev)
	}
	return fmt.Sprintf("%+q", fmt.Sprintf("%+v", c))
}

func wantCheck(t *testing.T, c api.Cmd, want api.Errno) {
	t.Helper()
	if e := cmd.Check(c); e != want {
		t.Errorf("Check of %s is %d, want %d", short(c), e, want)
	}
	if again := checked(c); again != want {
		t.Errorf("the tests' own reading of %s is %d, want %d", short(c), again, want)
	}
}

func wantMeet(t *testing.T, name string, a, b api.Cmd, want bool) {
	t.Helper()
	if got := cmd.Meet(a, b); got != want {
		t.Errorf("%s: Meet(%s, %s) is %v", name, short(a), short(b), got)
	}
	if got := cmd.Meet(b, a); got != want {
		t.Errorf("%s, the other way round: Meet(%s, %s) is %v", name, short(b), short(a), got)
	}
}

func get(client int, key string) api.Cmd {
	return api.Cmd{Kind: api.KGet, Client: client, Seq: 1, Key: key}
}

func put(client int, key string) api.Cmd {
	return api.Cmd{Kind: api.KPut, Client: client, Seq: 1, Key: key, Val: "v"}
}

func find(client int, key string) api.Cmd {
	return api.Cmd{Kind: api.KFind, Client: client, Seq: 1, Key: key}
}

// P6.1: the document's examples.
func TestExamples(t *testing.T) {
	wantMeet(t, "get of a and get of a", get(1, "a"), get(2, "a"), false)
	wantMeet(t, "get of a and put of a", get(1, "a"), put(2, "a"), true)
	wantMeet(t, "find of a and put of ab", find(1, "a"), put(2, "ab"), true)
}

// P6.1: each Kind that there is, and some that there are none of, with nothing and with much.
func TestCheckOfKinds(t *testing.T) {
	for _, k := range kinds() {
		wantCheck(t, right(k), api.OK)
	}
	for _, k := range others() {
		for _, c := range append([]api.Cmd{{}}, right(1), right(2), right(3), right(4), right(5)) {
			wantCheck(t, with(c, func(c *api.Cmd) { c.Kind = k }), api.ErrForm)
		}
	}
	for k, want := range map[int]api.Errno{0: api.OK, 6: api.OK, 1: api.ErrForm, 2: api.ErrForm, 3: api.ErrForm, 4: api.ErrForm, 5: api.ErrForm} {
		wantCheck(t, api.Cmd{Kind: k}, want)
	}
}

// P6.1: each field that a Kind doesn't name, set to little, to much and to what is wrong anywhere.
func TestCheckOfUnnamedFields(t *testing.T) {
	for _, k := range kinds() {
		f, _ := named(k)
		for _, v := range []int{1, 2, -1, mostClient, mostClient + 1, most, most + 1, math.MinInt, math.MaxInt} {
			if !f.client {
				wantCheck(t, with(right(k), func(c *api.Cmd) { c.Client = v }), api.ErrForm)
				wantCheck(t, with(right(k), func(c *api.Cmd) { c.Seq = v }), api.ErrForm)
				wantCheck(t, with(right(k), func(c *api.Cmd) { c.Client, c.Seq = 1, v }), api.ErrForm)
			}
			if !f.rev {
				wantCheck(t, with(right(k), func(c *api.Cmd) { c.Rev = v }), api.ErrForm)
			}
		}
		for _, s := range []string{"a", "\x00", "\xff", strings.Repeat("v", 32), strings.Repeat("v", 33), strings.Repeat("v", 1024), strings.Repeat("v", 1025)} {
			if !f.val {
				wantCheck(t, with(right(k), func(c *api.Cmd) { c.Val = s }), api.ErrForm)
			}
			if !f.key && !f.beginning {
				wantCheck(t, with(right(k), func(c *api.Cmd) { c.Key = s }), api.ErrForm)
			}
		}
	}
}

type bound struct {
	v    int
	want api.Errno
}

// P6.1: each number that a Kind names at its least, at its greatest, and just outside.
func TestCheckOfNumbers(t *testing.T) {
	far := []bound{{math.MinInt, api.ErrRange}, {math.MaxInt, api.ErrRange}, {-2, api.ErrRange}, {1<<32 - 1<<62, api.ErrRange}, {2, api.OK}}
	clients := append([]bound{{-1, api.ErrRange}, {0, api.ErrForm}, {1, api.OK}, {mostClient - 1, api.OK}, {mostClient, api.OK}, {mostClient + 1, api.ErrRange}, {1 << 32, api.ErrRange}, {most, api.ErrRange}}, far...)
	seqs := append([]bound{{-1, api.ErrRange}, {0, api.ErrForm}, {1, api.OK}, {mostClient + 1, api.OK}, {most - 1, api.OK}, {most, api.OK}, {most + 1, api.ErrRange}}, far...)
	revs := append([]bound{{-1, api.ErrRange}, {0, api.OK}, {1, api.OK}, {mostClient + 1, api.OK}, {most - 1, api.OK}, {most, api.OK}, {most + 1, api.ErrRange}}, far...)
	for _, k := range kinds() {
		f, _ := named(k)
		if !f.client {
			continue
		}
		for _, x := range clients {
			wantCheck(t, with(right(k), func(c *api.Cmd) { c.Client = x.v }), x.want)
		}
		for _, x := range seqs {
			wantCheck(t, with(right(k), func(c *api.Cmd) { c.Seq = x.v }), x.want)
		}
		for _, x := range revs {
			if f.rev {
				wantCheck(t, with(right(k), func(c *api.Cmd) { c.Rev = x.v }), x.want)
			}
		}
	}
}

// P6.1: values of no byte, of any bytes, of as many as may be and of more.
func TestCheckOfValues(t *testing.T) {
	for _, k := range []int{api.KPut, api.KCas} {
		for s, want := range map[string]api.Errno{
			"":                           api.OK,
			"v":                          api.OK,
			"\x00":                       api.OK,
			"\xff\xfe\n\x7f":             api.OK,
			strings.Repeat("v", 33):      api.OK,
			strings.Repeat("v", 1023):    api.OK,
			strings.Repeat("v", 1024):    api.OK,
			strings.Repeat("\xff", 1024): api.OK,
			strings.Repeat("v", 1025):    api.ErrLimit,
			// 1,024 runes, but 2,048 bytes: a value is counted by bytes.
			strings.Repeat("\u03b1", 1024): api.ErrLimit,
			strings.Repeat("\u03b1", 512):  api.OK,
			strings.Repeat("v", 1<<21):     api.ErrLimit,
		} {
			wantCheck(t, with(right(k), func(c *api.Cmd) { c.Val = s }), want)
		}
	}
}

// wrongKeys are neither keys nor beginnings.
func wrongKeys() []string {
	return []string{
		strings.Repeat("k", 33), strings.Repeat("\u03b1", 33), strings.Repeat("k", 1<<20), "\xff", "a\xff", "\xffa", "a\x80b", "\xce", "\xed\xa0\x80", "\xc0\x80", "\xf4\x90\x80\x80",
		"\x00", "\x1f", "\n", "\x7f", "a\x7f", "a\x1fb", "\u03b1\x00",
	}
}

func rightKeys() []string {
	return []string{
		"a", "ab", " ", "~", "\"", "\\", "\u03b1", "\ufffd", "\U0010ffff", "\u0080", strings.Repeat("k", 31), strings.Repeat("k", 32), strings.Repeat("\u03b1", 32), strings.Repeat("\U0001f331", 32),
	}
}

// P6.1: keys and beginnings that are empty, right, too long, and no runes.
func TestCheckOfKeys(t *testing.T) {
	for _, k := range []int{api.KGet, api.KPut, api.KDelete, api.KCas, api.KFind} {
		empty := api.ErrKey
		if k == api.KFind {
			empty = api.OK
		}
		wantCheck(t, with(right(k), func(c *api.Cmd) { c.Key = "" }), empty)
		for _, s := range rightKeys() {
			wantCheck(t, with(right(k), func(c *api.Cmd) { c.Key = s }), api.OK)
		}
		for _, s := range wrongKeys() {
			wantCheck(t, with(right(k), func(c *api.Cmd) { c.Key = s }), api.ErrKey)
		}
	}
}

// P6.1: a KNoop and a KBarrier, with and without a Client and a Seq.
func TestCheckOfNoopAndBarrier(t *testing.T) {
	for _, k := range []int{api.KNoop, api.KBarrier} {
		for _, client := range []int{-1, 0, 1, mostClient + 1} {
			for _, seq := range []int{-1, 0, 1, most + 1} {
				want := api.ErrForm
				if client == 0 && seq == 0 {
					want = api.OK
				}
				wantCheck(t, api.Cmd{Kind: k, Client: client, Seq: seq}, want)
			}
		}
	}
}

// fault is a change that gives a right command that error; two of the same field can't hold at once.
type fault struct {
	e      api.Errno
	field  string
	change func(*api.Cmd)
}

// faults are those that commands of that Kind can have.
func faults(kind int) []fault {
	f, _ := named(kind)
	l := []fault{
		{api.ErrForm, "kind", func(c *api.Cmd) { c.Kind = 7 }},
		{api.ErrForm, "kind", func(c *api.Cmd) { c.Kind = -1 }},
		{api.ErrForm, "client", func(c *api.Cmd) { c.Client = 0 }},
		{api.ErrForm, "seq", func(c *api.Cmd) { c.Seq = 0 }},
		{api.ErrRange, "client", func(c *api.Cmd) { c.Client = -1 }},
		{api.ErrRange, "client", func(c *api.Cmd) { c.Client = mostClient + 1 }},
		{api.ErrRange, "seq", func(c *api.Cmd) { c.Seq = -1 }},
		{api.ErrRange, "seq", func(c *api.Cmd) { c.Seq = most + 1 }},
		{api.ErrKey, "key", func(c *api.Cmd) { c.Key = "\xff" }},
		{api.ErrKey, "key", func(c *api.Cmd) { c.Key = strings.Repeat("k", 33) }},
	}
	if f.key {
		l = append(l, fault{api.ErrKey, "key", func(c *api.Cmd) { c.Key = "" }})
	}
	value, revision := api.ErrForm, api.ErrForm
	if f.val {
		value = api.ErrLimit
	}
	if f.rev {
		revision = api.ErrRange
	}
	return append(l,
		fault{value, "val", func(c *api.Cmd) { c.Val = strings.Repeat("v", 1025) }},
		fault{revision, "rev", func(c *api.Cmd) { c.Rev = -1 }},
		fault{revision, "rev", func(c *api.Cmd) { c.Rev = most + 1 }})
}

// place is where the chapter names the error.
func place(e api.Errno) int {
	return slices.Index([]api.Errno{api.ErrForm, api.ErrRange, api.ErrLimit, api.ErrKey}, e)
}

// P6.1, R2: of two faults at once the first is told, for each two errors.
func TestCheckOfTwoFaults(t *testing.T) {
	seen := map[[2]api.Errno]int{}
	for _, k := range []int{api.KGet, api.KPut, api.KDelete, api.KCas, api.KFind} {
		for _, a := range faults(k) {
			wantCheck(t, with(right(k), a.change), a.e)
			for _, b := range faults(k) {
				if a.field == b.field {
					continue
				}
				want := a.e
				if place(b.e) < place(a.e) {
					want = b.e
				}
				wantCheck(t, with(with(right(k), a.change), b.change), want)
				seen[[2]api.Errno{a.e, b.e}]++
			}
		}
	}
	all := []api.Errno{api.ErrForm, api.ErrRange, api.ErrLimit, api.ErrKey}
	for _, a := range all {
		for _, b := range all {
			if a != b && seen[[2]api.Errno{a, b}] == 0 {
				t.Errorf("no command has errors %d and %d", a, b)
			}
		}
	}
	wantCheck(t, api.Cmd{Kind: 4, Client: -1, Seq: -1, Key: "\xff", Val: strings.Repeat("v", 1025), Rev: -1}, api.ErrRange)
	wantCheck(t, api.Cmd{Kind: 4, Client: 0, Seq: -1, Key: "\xff", Val: strings.Repeat("v", 1025), Rev: -1}, api.ErrForm)
	wantCheck(t, api.Cmd{Kind: 4, Client: 1, Seq: 1, Key: "\xff", Val: strings.Repeat("v", 1025), Rev: 1}, api.ErrLimit)
	wantCheck(t, api.Cmd{Kind: 9, Client: -1, Seq: -1, Key: "\xff", Val: strings.Repeat("v", 1025), Rev: -1}, api.ErrForm)
}

// each goes through commands of all Kinds with all edges at once.
func each(visit func(c api.Cmd)) {
	keys := []string{"", "a", strings.Repeat("k", 32), strings.Repeat("k", 33), "\xff", "\x7f"}
	vals := []string{"", "v", strings.Repeat("v", 1024), strings.Repeat("v", 1025)}
	seqs := []int{math.MinInt, -1, 0, 1, most, most + 1, math.MaxInt}
	for _, k := range append(kinds(), others()...) {
		for _, client := range []int{math.MinInt, -1, 0, 1, mostClient, mostClient + 1, math.MaxInt} {
			for _, seq := range seqs {
				for _, rev := range seqs {
					for _, key := range keys {
						for _, val := range vals {
							visit(api.Cmd{Kind: k, Client: client, Seq: seq, Key: key, Val: val, Rev: rev})
						}
					}
				}
			}
		}
	}
}

// P6.1, P6.2, P6.3: all edges at once, against the tests' own reading; what is right is taken as it was, and nothing else.
func TestCheckOfAll(t *testing.T) {
	n := 0
	each(func(c api.Cmd) {
		e, want := cmd.Check(c), checked(c)
		if e != want {
			t.Fatalf("Check of %s is %d, want %d", short(c), e, want)
		}
		if want == api.OK {
			n++
		}
		got, ok := cmd.Take(itemOf(c))
		if ok != (want == api.OK) || ok && got != c || !ok && got != (api.Cmd{}) {
			t.Fatalf("the item of %s is taken as %s, %v", short(c), short(got), ok)
		}
		if cmd.Writes(c) != writes(c) {
			t.Fatalf("Writes of %s is %v", short(c), !writes(c))
		}
	})
	if n < 100 {
		t.Errorf("only %d of the commands are right", n)
	}
}

// P6.1: which Kinds write, right or not.
func TestWrites(t *testing.T) {
	for k, want := range map[int]bool{0: false, 1: false, 2: true, 3: true, 4: true, 5: false, 6: false} {
		for _, c := range []api.Cmd{right(k), {Kind: k}, {Kind: k, Client: -1, Seq: -1, Key: "\xff", Val: strings.Repeat("v", 1025), Rev: -1}} {
			if cmd.Writes(c) != want {
				t.Errorf("Writes of %s is %v", short(c), !want)
			}
		}
	}
	for _, k := range others() {
		for _, c := range []api.Cmd{{Kind: k}, with(right(api.KPut), func(c *api.Cmd) { c.Kind = k })} {
			if cmd.Writes(c) {
				t.Errorf("%s writes", short(c))
			}
		}
	}
}

// P6.1, P6.3: what meets what, written out: by row and column the Kinds of two clients' commands of one key.
func TestMeetOfKinds(t *testing.T) {
	table := []string{
		//NGPDCFB
		"0000000", // a KNoop meets nothing
		"0011101", // KGet
		"0111111", // KPut
		"0111111", // KDelete
		"0111111", // KCas
		"0011101", // KFind
		"0111111", // a KBarrier meets all but a KNoop
	}
	for _, j := range kinds() {
		for _, k := range kinds() {
			a, b := right(j), right(k)
			if b.Client != 0 {
				b.Client++
			}
			wantMeet(t, "one key, two clients", a, b, table[j][k] == '1')
			one := with(right(k), func(c *api.Cmd) { c.Key = "other" })
			if k == api.KNoop || k == api.KBarrier {
				one = right(k)
			}
			wantMeet(t, "one client, two keys", a, one, j != api.KNoop && k != api.KNoop)
		}
	}
}

// P6.1, P6.3: keys that are the same, that begin with each other, and that share nothing, by who asks for them.
func TestMeetOfKeys(t *testing.T) {
	for _, c := range []struct {
		find, key string
		covered   bool
	}{
		{"a", "a", true}, {"a", "ab", true}, {"ab", "a", false}, {"ab", "ab", true}, {"b", "ab", false}, {"a", "b", false}, {"abc", "abd", false},
		{"", "a", true}, {"", "", true}, {"a", "", false}, {"", strings.Repeat("k", 32), true},
		{"\u03b1", "\u03b1\u03b2", true}, {"\u03b2", "\u03b1\u03b2", false}, {"A", "a", false}, {strings.Repeat("k", 31), strings.Repeat("k", 32), true},
		{strings.Repeat("k", 33), strings.Repeat("k", 34), true}, {"\xce", "\u03b1", true}, {"\xff", "\xffa", true},
	} {
		for _, k := range []int{api.KPut, api.KDelete, api.KCas} {
			w := api.Cmd{Kind: k, Client: 2, Seq: 1, Key: c.key}
			wantMeet(t, "find and what writes", find(1, c.find), w, c.covered)
			wantMeet(t, "find and what writes, of one client", find(2, c.find), w, true)
			for _, j := range []int{api.KGet, api.KPut, api.KDelete, api.KCas} {
				wantMeet(t, "what is no find and what writes", api.Cmd{Kind: j, Client: 1, Seq: 1, Key: c.find}, w, c.find == c.key)
			}
		}
		for _, k := range []int{api.KGet, api.KFind} {
			r := api.Cmd{Kind: k, Client: 2, Seq: 1, Key: c.key}
			wantMeet(t, "find and what writes nothing", find(1, c.find), r, false)
			wantMeet(t, "get and what writes nothing", get(1, c.find), r, false)
			wantMeet(t, "find and what writes nothing, of one client", find(2, c.find), r, true)
		}
	}
}

// P6.1: a command meets itself, but for a KNoop; neither its number, its value nor its revision tells what it meets.
func TestMeetOfOneAndOfOtherParts(t *testing.T) {
	for _, k := range kinds() {
		wantMeet(t, "itself", right(k), right(k), k != api.KNoop)
	}
	for _, j := range kinds() {
		for _, k := range kinds() {
			a, b := right(j), right(k)
			b.Client, b.Key = 8, "abc"
			was := cmd.Meet(a, b)
			for _, v := range []int{-1, 0, 1, 5, 9, most} {
				b.Seq, b.Rev, b.Val = v, v, strings.Repeat("v", v&1023)
				wantMeet(t, "other parts", a, b, was)
			}
		}
	}
}

// P6.1: commands that aren't right meet as the words tell of any.
func TestMeetOfWrongOnes(t *testing.T) {
	strange := func(kind, client int, key string) api.Cmd { return api.Cmd{Kind: kind, Client: client, Key: key} }
	for _, k := range others() {
		wantMeet(t, "no such Kind and a KNoop", strange(k, 0, ""), api.Cmd{}, false)
		wantMeet(t, "no such Kind and a KBarrier", strange(k, 1, "a"), api.Cmd{Kind: api.KBarrier}, true)
		wantMeet(t, "no such Kind, one client", strange(k, 1, "a"), get(1, "b"), true)
		wantMeet(t, "no such Kind, twice, one client", strange(k, 1, "a"), strange(-k, 1, "b"), true)
		wantMeet(t, "no such Kind, one key", strange(k, 1, "a"), put(2, "a"), true)
		wantMeet(t, "no such Kind, one key, nobody writes", strange(k, 1, "a"), get(2, "a"), false)
		wantMeet(t, "no such Kind, twice, one key", strange(k, 1, "a"), strange(k, 2, "a"), false)
		wantMeet(t, "no such Kind and find", strange(k, 1, "ab"), find(2, "a"), false)
		wantMeet(t, "no such Kind, one key begins the other", strange(k, 1, "a"), put(2, "ab"), false)
	}
	wantMeet(t, "a KNoop of the same client", api.Cmd{Client: 1, Seq: 1, Key: "a"}, put(1, "a"), false)
	wantMeet(t, "a KNoop and a KBarrier of the same client", api.Cmd{Client: 1}, api.Cmd{Kind: api.KBarrier, Client: 1}, false)
	wantMeet(t, "a KBarrier with parts", api.Cmd{Kind: api.KBarrier, Client: 1, Seq: 1, Key: "b"}, get(2, "a"), true)
	wantMeet(t, "clients of 0", strange(api.KGet, 0, "a"), strange(api.KFind, 0, "b"), true)
	wantMeet(t, "clients of -1", strange(api.KGet, -1, "a"), strange(api.KPut, -1, "b"), true)
	wantMeet(t, "clients of 1 and -1", strange(api.KGet, 1, "a"), strange(api.KPut, -1, "b"), false)
	wantMeet(t, "clients that are alike in 32 bits", strange(api.KGet, 1, "a"), strange(api.KPut, 1<<32+1, "b"), false)
}

// P6.1, P6.3: every two Kinds, right or not, of several clients and keys, both ways round, against the tests' own reading.
func TestMeetOfAll(t *testing.T) {
	var l []api.Cmd
	for _, k := range append(kinds(), -1, 7, math.MinInt, math.MaxInt) {
		for _, client := range []int{-1, 0, 1, 2, mostClient + 1} {
			for _, key := range []string{"", "a", "ab", "abc", "b", "\u03b1", "\xce", "\xff"} {
				l = append(l, api.Cmd{Kind: k, Client: client, Seq: 1, Key: key})
			}
		}
	}
	for _, a := range l {
		for _, b := range l {
			if got := cmd.Meet(a, b); got != meet(a, b) || got != cmd.Meet(b, a) {
				t.Fatalf("Meet(%s, %s) is %v, the other way round %v, want %v", short(a), short(b), got, cmd.Meet(b, a), meet(a, b))
			}
		}
	}
}

func number(v uint64) api.Item { return api.Item{Kind: api.KNum, N: v} }

func text(s string) api.Item { return api.Item{Kind: api.KText, S: s} }

// itemOf is the item of a command, whatever it is.
func itemOf(c api.Cmd) api.Item {
	return api.Item{Kind: api.KList, L: []api.Item{
		number(uint64(c.Kind)), number(uint64(c.Client)), number(uint64(c.Seq)), text(c.Key), text(c.Val), number(uint64(c.Rev)),
	}}
}

// P6.2: the items of right commands by their forms, written out.
func TestItem(t *testing.T) {
	for _, x := range []struct {
		c    api.Cmd
		form string
	}{
		{api.Cmd{}, "\x02\x06\x00\x00\x00\x00\x00\x00\x01\x00\x01\x00\x00\x00"},
		{api.Cmd{Kind: api.KBarrier}, "\x02\x06\x00\x06\x00\x00\x00\x00\x01\x00\x01\x00\x00\x00"},
		{get(3, "a"), "\x02\x06\x00\x01\x00\x03\x00\x01\x01\x01a\x01\x00\x00\x00"},
		{put(3, "\u03b1"), "\x02\x06\x00\x02\x00\x03\x00\x01\x01\x02\xce\xb1\x01\x01v\x00\x00"},
		{find(3, ""), "\x02\x06\x00\x05\x00\x03\x00\x01\x01\x00\x01\x00\x00\x00"},
		{api.Cmd{Kind: api.KDelete, Client: 4, Seq: 5, Key: "k"}, "\x02\x06\x00\x03\x00\x04\x00\x05\x01\x01k\x01\x00\x00\x00"},
		{api.Cmd{Kind: api.KCas, Client: 4, Seq: 5, Key: "k", Val: "\xff", Rev: 6}, "\x02\x06\x00\x04\x00\x04\x00\x05\x01\x01k\x01\x01\xff\x00\x06"},
		{api.Cmd{Kind: api.KCas, Client: 300, Seq: most, Key: "k", Rev: most}, "\x02\x06\x00\x04\x00\xf9\x01\x2c\x00\xfd\x01\x00\x00\x00\x00\x00\x01\x01k\x01\x00\x00\xfd\x01\x00\x00\x00\x00\x00"},
	} {
		item := cmd.Item(x.c)
		if !codec.Same(item, itemOf(x.c)) {
			t.Errorf("Item of %s is %+q", short(x.c), fmt.Sprint(item))
		}
		if b, e := codec.Put(item); e != api.OK || string(b) != x.form {
			t.Errorf("the form of %s is % x, %v", short(x.c), b, e)
		}
	}
}

// rightOnes are right commands of all Kinds, at all edges, and some that are made up.
func rightOnes() []api.Cmd {
	l := []api.Cmd{{}, {Kind: api.KBarrier}}
	r := rand.New(rand.NewSource(1))
	keys := rightKeys()
	for k := api.KGet; k <= api.KFind; k++ {
		f, _ := named(k)
		if f.beginning {
			keys = append(keys, "")
		}
		for _, key := range keys {
			for _, v := range []int{1, mostClient, most - 1, most, 1 + r.Intn(most), 1 + r.Intn(1000)} {
				c := api.Cmd{Kind: k, Client: min(v, mostClient), Seq: v, Key: key}
				l = append(l, c)
				if f.val {
					c.Val = strings.Repeat("\xff\x00v\u03b1", r.Intn(200))
					l = append(l, c, with(c, func(c *api.Cmd) { c.Val = strings.Repeat("v", 1024) }))
				}
				if f.rev {
					l = append(l, with(c, func(c *api.Cmd) { c.Rev = v }))
				}
			}
		}
	}
	return l
}

// P6.2, P6.3: right commands of every Kind, there and back, from the item's form too.
func TestItemAndTake(t *testing.T) {
	seen := [7]int{}
	for _, c := range rightOnes() {
		wantCheck(t, c, api.OK)
		seen[c.Kind]++
		item := cmd.Item(c)
		if !codec.Same(item, itemOf(c)) {
			t.Errorf("%s: not the item", short(c))
		}
		if got, ok := cmd.Take(item); !ok || got != c {
			t.Errorf("%s: taken as %s, %v", short(c), short(got), ok)
		}
		b, e := codec.Put(item)
		again, e2, _ := codec.Get(b)
		if got, ok := cmd.Take(again); e != api.OK || e2 != api.OK || !ok || got != c {
			t.Errorf("%s: %v, %v, by its form %s, %v", short(c), e, e2, short(got), ok)
		}
	}
	if slices.Contains(seen[:], 0) {
		t.Errorf("of some Kind there is no right command: %v", seen)
	}
}

func wantNone(t *testing.T, name string, x api.Item) {
	t.Helper()
	if c, ok := cmd.Take(x); ok || c != (api.Cmd{}) {
		t.Errorf("%s: taken as %s, %v", name, short(c), ok)
	}
}

// P6.2: items that aren't lists, and lists with fewer items or more.
func TestTakeOfOtherItems(t *testing.T) {
	wantNone(t, "the zero item", api.Item{})
	for _, v := range []uint64{0, 1, 6, math.MaxUint64} {
		wantNone(t, "a number", number(v))
	}
	for _, s := range []string{"", "a", "\x02\x06", strings.Repeat("a", 5000)} {
		wantNone(t, "a text", text(s))
	}
	for _, k := range kinds() {
		whole := itemOf(right(k)).L
		for n := range len(whole) {
			wantNone(t, fmt.Sprintf("the first %d items of kind %d", n, k), api.Item{Kind: api.KList, L: whole[:n]})
			wantNone(t, fmt.Sprintf("all but the first %d items of kind %d", n+1, k), api.Item{Kind: api.KList, L: whole[n+1:]})
		}
		for _, more := range []api.Item{number(0), text(""), {Kind: api.KList}} {
			wantNone(t, "one item more, behind", api.Item{Kind: api.KList, L: append(slices.Clone(whole), more)})
			wantNone(t, "one item more, ahead", api.Item{Kind: api.KList, L: append([]api.Item{more}, whole...)})
		}
		wantNone(t, "twice", api.Item{Kind: api.KList, L: slices.Concat(whole, whole)})
		wantNone(t, "in a list", api.Item{Kind: api.KList, L: []api.Item{itemOf(right(k))}})
		turned := slices.Clone(whole)
		slices.Reverse(turned)
		wantNone(t, "turned", api.Item{Kind: api.KList, L: turned})
	}
	wantNone(t, "an empty list", api.Item{Kind: api.KList})
	wantNone(t, "many items", api.Item{Kind: api.KList, L: make([]api.Item, 100000)})
}

// wrongParts are what may stand at a place instead of a number or a text, with all that was there.
func wrongParts(was api.Item) map[string]api.Item {
	deep := number(0)
	for range 10000 {
		deep = api.Item{Kind: api.KList, L: []api.Item{deep}}
	}
	l := map[string]api.Item{
		"a list":              {Kind: api.KList},
		"a list of it":        {Kind: api.KList, L: []api.Item{was}},
		"a list with its":     {Kind: api.KList, N: was.N, S: was.S},
		"a list within many":  deep,
		"kind 3":              {Kind: 3, N: was.N, S: was.S},
		"kind -1":             {Kind: -1, N: was.N, S: was.S},
		"it, and a list":      {Kind: was.Kind, N: was.N, S: was.S, L: []api.Item{{}}},
		"it, and a list more": {Kind: was.Kind, N: was.N, S: was.S, L: []api.Item{was, was}},
	}
	if was.Kind == api.KNum {
		l["a text"] = text("")
		l["a text of digits"] = text(fmt.Sprint(was.N))
		l["a text with a number"] = api.Item{Kind: api.KText, N: was.N}
		l["a number with a text"] = api.Item{Kind: api.KNum, N: was.N, S: "a"}
		return l
	}
	l["a number"] = number(0)
	l["a number of 1"] = number(1)
	l["a number with a text"] = api.Item{Kind: api.KNum, S: was.S}
	l["a text with a number"] = api.Item{Kind: api.KText, S: was.S, N: 1}
	return l
}

// P6.2: at each place what is no number, or no text, or has what such a one doesn't have.
func TestTakeOfWrongParts(t *testing.T) {
	for _, k := range kinds() {
		for at := range 6 {
			x := itemOf(right(k))
			for name, part := range wrongParts(x.L[at]) {
				y := itemOf(right(k))
				y.L[at] = part
				wantNone(t, fmt.Sprintf("kind %d, %s at %d", k, name, at), y)
			}
		}
		for name, wrong := range map[string]func(x *api.Item){
			"a number":           func(x *api.Item) { x.Kind = api.KNum },
			"a text":             func(x *api.Item) { x.Kind = api.KText },
			"kind 3":             func(x *api.Item) { x.Kind = 3 },
			"kind -1":            func(x *api.Item) { x.Kind = -1 },
			"a list with a N":    func(x *api.Item) { x.N = 1 },
			"a list with a text": func(x *api.Item) { x.S = "a" },
		} {
			x := itemOf(right(k))
			wrong(&x)
			wantNone(t, fmt.Sprintf("kind %d, %s", k, name), x)
		}
	}
}

// P6.2: numbers too great, those that go round to small ones among them.
func TestTakeOfGreatNumbers(t *testing.T) {
	for _, k := range kinds() {
		for _, at := range []int{0, 1, 2, 5} {
			for _, v := range []uint64{most + 1, 1 << 41, 1<<40 + 1<<32, 1 << 62, 1<<63 - 1, 1 << 63, 1<<63 + 1, 1<<63 + 7, math.MaxUint64 - 6, math.MaxUint64} {
				x := itemOf(right(k))
				x.L[at].N = v
				wantNone(t, fmt.Sprintf("kind %d, %d at %d", k, v, at), x)
			}
			for _, high := range []uint64{1 << 32, 1 << 48, 1 << 63} {
				x := itemOf(right(k))
				x.L[at].N |= high
				_, ok := cmd.Take(x)
				if want := high == 1<<32 && at == 2 && right(k).Client != 0 || high == 1<<32 && at == 5 && k == api.KCas; ok != want {
					t.Errorf("kind %d, %d at %d: %v", k, x.L[at].N, at, ok)
				}
			}
		}
	}
	for _, v := range []uint64{7, 8, 256, math.MaxUint64} {
		x := itemOf(right(api.KGet))
		x.L[0].N = v
		wantNone(t, fmt.Sprintf("kind %d", v), x)
	}
	x := itemOf(right(api.KGet))
	x.L[1].N = mostClient + 1
	wantNone(t, "a client too great", x)
}

// P6.2: the items of commands that aren't right, for each fault alone; their own Item is none's either.
func TestTakeOfWrongCommands(t *testing.T) {
	for _, k := range []int{api.KGet, api.KPut, api.KDelete, api.KCas, api.KFind} {
		for _, f := range faults(k) {
			c := with(right(k), f.change)
			wantNone(t, short(c), itemOf(c))
			wantNone(t, "Item of "+short(c), cmd.Item(c))
		}
		for _, s := range wrongKeys() {
			c := with(right(k), func(c *api.Cmd) { c.Key = s })
			wantNone(t, short(c), itemOf(c))
		}
	}
	for _, k := range []int{api.KNoop, api.KBarrier} {
		for _, c := range []api.Cmd{{Client: 1}, {Seq: 1}, {Client: 1, Seq: 1}, {Key: "a"}, {Val: "v"}, {Rev: 1}, {Rev: -1}, {Client: -1}} {
			c.Kind = k
			wantNone(t, short(c), itemOf(c))
			wantNone(t, "Item of "+short(c), cmd.Item(c))
		}
	}
	for _, k := range others() {
		wantNone(t, fmt.Sprintf("kind %d", k), itemOf(api.Cmd{Kind: k}))
		wantNone(t, fmt.Sprintf("Item of kind %d", k), cmd.Item(api.Cmd{Kind: k}))
	}
}

// R1: what is above the limits is refused ahead of making as much of it.
func TestNothingAboveTheLimitIsMade(t *testing.T) {
	c := with(right(api.KPut), func(c *api.Cmd) { c.Val = strings.Repeat("v", 1<<24) })
	x, y := itemOf(c), api.Item{Kind: api.KList, L: make([]api.Item, 1<<18)}
	var before, behind runtime.MemStats
	runtime.ReadMemStats(&before)
	e := cmd.Check(c)
	item := cmd.Item(c)
	_, ok := cmd.Take(x)
	_, ok2 := cmd.Take(y)
	runtime.ReadMemStats(&behind)
	if e != api.ErrLimit || ok || ok2 || len(item.L) != 0 {
		t.Errorf("a value above the limit: %v, %v, %v", e, ok, ok2)
	}
	if made := behind.TotalAlloc - before.TotalAlloc; made > 1<<20 {
		t.Errorf("%d bytes of memory for what is refused", made)
	}
}

// P6.3, R4, R6: asking changes no command, and is answered the same each time.
func TestAskingChangesNothing(t *testing.T) {
	l := rightOnes()
	for _, k := range []int{api.KGet, api.KCas, api.KFind} {
		for _, f := range faults(k) {
			l = append(l, with(right(k), f.change))
		}
	}
	for at, c := range l {
		d := l[len(l)-1-at]
		a, b := c, d
		e, w, m, x := cmd.Check(a), cmd.Writes(a), cmd.Meet(a, b), cmd.Item(a)
		if a != c || b != d {
			t.Fatalf("%s or %s was changed", short(c), short(d))
		}
		if cmd.Check(a) != e || cmd.Writes(a) != w || cmd.Meet(a, b) != m || !codec.Same(cmd.Item(a), x) {
			t.Fatalf("%s and %s have two answers", short(c), short(d))
		}
	}
}

// over writes other items over all of l, and behind it as far as its memory goes.
func over(l []api.Item) {
	l = l[:cap(l)]
	for at := range l {
		l[at] = text("over")
	}
}

// P6.3, R4: an item is new memory: neither the command nor another answer changes with it, nor it with the command.
func TestItemMemory(t *testing.T) {
	for _, c := range rightOnes() {
		was := c
		x, second := cmd.Item(c), cmd.Item(c)
		over(second.L)
		if c != was || !codec.Same(x, itemOf(was)) || !codec.Same(cmd.Item(was), itemOf(was)) {
			t.Fatalf("%s: writing over an item changed something", short(was))
		}
		c = api.Cmd{Kind: -9, Client: -9, Seq: -9, Key: "over", Val: "over", Rev: -9}
		if !codec.Same(x, itemOf(was)) {
			t.Fatalf("%s: its item changed with it", short(was))
		}
	}
}

// P6.3, R4: Take leaves the item as it was, with what lies behind it; the command stays when the item is written over, and the other way round.
func TestTakeMemory(t *testing.T) {
	wrong := with(right(api.KPut), func(c *api.Cmd) { c.Key = "" })
	for _, c := range append(rightOnes(), wrong) {
		parts := append(itemOf(c).L, text("behind"), number(3))
		x := api.Item{Kind: api.KList, L: parts[:6]}
		got, ok := cmd.Take(x)
		if ok != (c != wrong) || ok && got != c {
			t.Fatalf("%s: taken as %s, %v", short(c), short(got), ok)
		}
		if !codec.Same(x, itemOf(c)) || !codec.Same(parts[6], text("behind")) || !codec.Same(parts[7], number(3)) {
			t.Fatalf("%s: Take changed the item", short(c))
		}
		other := got
		other.Kind, other.Key, other.Val, other.Rev = -9, "over", "over", -9
		if !codec.Same(x, itemOf(c)) {
			t.Fatalf("%s: the item changed with the command", short(c))
		}
		over(x.L)
		if ok && got != c || !ok && got != (api.Cmd{}) {
			t.Fatalf("%s: the command changed with its item", short(c))
		}
	}
}

// P6.3, R4: a command that is taken from bytes stays when these are written over.
func TestTakeFromBytes(t *testing.T) {
	for _, c := range rightOnes() {
		b, _ := codec.Put(cmd.Item(c))
		x, _, _ := codec.Get(b)
		got, ok := cmd.Take(x)
		for at := range b {
			b[at] = 0xee
		}
		over(x.L)
		if !ok || got != c {
			t.Fatalf("%s: taken as %s, %v", short(c), short(got), ok)
		}
	}
}

// P6.2, P1: of any bytes, what is taken is a right command whose item that is.
func FuzzTake(f *testing.F) {
	for _, k := range kinds() {
		b, _ := codec.Put(itemOf(right(k)))
		f.Add(b)
	}
	for _, x := range []api.Item{text("a"), {Kind: api.KList}, itemOf(api.Cmd{Kind: 7}), itemOf(put(0, "a"))} {
		b, _ := codec.Put(x)
		f.Add(b)
	}
	f.Fuzz(func(t *testing.T, b []byte) {
		x, _, _ := codec.Get(b)
		c, ok := cmd.Take(x)
		if ok && (checked(c) != api.OK || !codec.Same(itemOf(c), x)) || !ok && (c != api.Cmd{}) {
			t.Errorf("% x: taken as %s, %v", b, short(c), ok)
		}
	})
}

// P6.1, P6.3, P1: of any two commands, each call against the tests' own reading.
func FuzzCommands(f *testing.F) {
	for _, k := range kinds() {
		f.Add(k, 1, 1, "a", "v", 0, 6-k, 2, 1, "ab", "", 1)
	}
	f.Fuzz(func(t *testing.T, k1, client1, seq1 int, key1, val1 string, rev1, k2, client2, seq2 int, key2, val2 string, rev2 int) {
		a := api.Cmd{Kind: k1, Client: client1, Seq: seq1, Key: key1, Val: val1, Rev: rev1}
		b := api.Cmd{Kind: k2, Client: client2, Seq: seq2, Key: key2, Val: val2, Rev: rev2}
		for _, c := range []api.Cmd{a, b} {
			if cmd.Check(c) != checked(c) || cmd.Writes(c) != writes(c) {
				t.Errorf("%s: Check is %d, Writes is %v", short(c), cmd.Check(c), cmd.Writes(c))
			}
		}
		if cmd.Meet(a, b) != meet(a, b) || cmd.Meet(b, a) != meet(a, b) {
			t.Errorf("Meet(%s, %s) is %v", short(a), short(b), cmd.Meet(a, b))
		}
	})
}

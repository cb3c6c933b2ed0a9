package runes_test

import (
	"fmt"
	"math/rand"
	"regexp"
	"slices"
	"strconv"
	"strings"
	"testing"

	"stonecrop/api"
	"stonecrop/runes"
)

// piece is a rune of a text by the tests' own reading of UTF-8: its bytes, and its number if it is right.
type piece struct {
	s     string
	r     int
	right bool
}

// first reads the piece with which s begins by UTF-8's rule: how many bytes the first one tells, six bits of each that follows, and no more bytes than the number needs.
func first(s string) piece {
	lead := int(s[0])
	var n, r, least int
	switch {
	case lead < 0x80:
		return piece{s[:1], lead, true}
	case lead&0xe0 == 0xc0:
		n, r, least = 2, lead&0x1f, 0x80
	case lead&0xf0 == 0xe0:
		n, r, least = 3, lead&0x0f, 0x800
	case lead&0xf8 == 0xf0:
		n, r, least = 4, lead&0x07, 0x10000
	}
	if n == 0 || len(s) < n {
		return piece{s: s[:1]}
	}
	for _, c := range []byte(s[1:n]) {
		if c&0xc0 != 0x80 {
			return piece{s: s[:1]}
		}
		r = r<<6 | int(c&0x3f)
	}
	if r < least || r > 0x10ffff || 0xd800 <= r && r <= 0xdfff {
		return piece{s: s[:1]}
	}
	return piece{s[:n], r, true}
}

func pieces(s string) []piece {
	var l []piece
	for s != "" {
		p := first(s)
		l = append(l, p)
		s = s[len(p.s):]
	}
	return l
}

// form is how a piece stands in quotes.
func form(p piece) string {
	switch {
	case !p.right:
		return fmt.Sprintf(`\x%02x`, p.s[0])
	case p.r == 0x22:
		return `\"`
	case p.r == 0x5c:
		return `\\`
	case 0x20 <= p.r && p.r <= 0x7e:
		return string(byte(p.r))
	}
	return fmt.Sprintf(`\u%x.`, p.r)
}

func inQuotes(s string) string {
	q := `"`
	for _, p := range pieces(s) {
		q += form(p)
	}
	return q + `"`
}

func beginning(s string) api.Errno {
	l := pieces(s)
	bad := func(p piece) bool { return !p.right || p.r < 0x20 || p.r == 0x7f }
	if len(l) > 32 || slices.ContainsFunc(l, bad) {
		return api.ErrKey
	}
	return api.OK
}

func key(s string) api.Errno {
	if len(s) == 0 {
		return api.ErrKey
	}
	return beginning(s)
}

const onePiece = `[ !#-\[\]-~]|\\["\\]|\\u(?:0|[1-9a-f][0-9a-f]*)\.|\\x[89a-f][0-9a-f]`

var (
	whole = regexp.MustCompile(`^"(?:` + onePiece + `)*"$`)
	each  = regexp.MustCompile(onePiece)
)

// outOfQuotes reads what is in quotes by the words' pattern; a piece must be the form of what then stands at its place.
func outOfQuotes(q string) (string, bool) {
	if !whole.MatchString(q) {
		return "", false
	}
	forms := each.FindAllString(q[1:len(q)-1], -1)
	var s string
	for _, f := range forms {
		switch {
		case strings.HasPrefix(f, `\u`):
			r, err := strconv.ParseInt(f[2:len(f)-1], 16, 32)
			if err != nil || r > 0x10ffff || 0xd800 <= r && r <= 0xdfff {
				return "", false
			}
			s += string(rune(r))
		case strings.HasPrefix(f, `\x`):
			v, _ := strconv.ParseInt(f[2:], 16, 32)
			s += string([]byte{byte(v)})
		default:
			s += f[len(f)-1:]
		}
	}
	for i, p := range pieces(s) {
		if i >= len(forms) || form(p) != forms[i] {
			return "", false
		}
	}
	return s, len(pieces(s)) == len(forms)
}

// holdsOfText: P4.1 to P4.3 of one text.
func holdsOfText(t *testing.T, s string) {
	t.Helper()
	if n := runes.Count(s); n != len(pieces(s)) {
		t.Fatalf("Count(%x) = %d; want %d", s, n, len(pieces(s)))
	}
	if e := runes.Key(s); e != key(s) {
		t.Fatalf("Key(%x) = %d; want %d", s, e, key(s))
	}
	if e := runes.Beginning(s); e != beginning(s) {
		t.Fatalf("Beginning(%x) = %d; want %d", s, e, beginning(s))
	}
	q := runes.Quote(s)
	if want := inQuotes(s); q != want {
		t.Fatalf("Quote(%x) = %s; want %s", s, q, want)
	}
	wantUnquote(t, q, s, true)
}

// holdsOfQuoted: P4.2 and P4.3 of one text that may be in quotes.
func holdsOfQuoted(t *testing.T, q string) {
	t.Helper()
	s, ok := outOfQuotes(q)
	wantUnquote(t, q, s, ok)
	if ok && runes.Quote(s) != q {
		t.Fatalf("Unquote(%q) tells %x, whose text in quotes is %s", q, s, runes.Quote(s))
	}
}

func wantUnquote(t *testing.T, q, s string, ok bool) {
	t.Helper()
	if got, gotOk := runes.Unquote(q); got != s || gotOk != ok {
		t.Fatalf("Unquote(%q) = %x, %v; want %x, %v", q, got, gotOk, s, ok)
	}
}

// texts: how many runes, whether it is a key, whether it is a beginning, and the text in quotes, all written out by hand.
var texts = []struct {
	s        string
	n        int
	key, beg api.Errno
	q        string
}{
	{"", 0, api.ErrKey, api.OK, `""`},
	{"a", 1, api.OK, api.OK, `"a"`},
	{"a\xff\u03b1", 3, api.ErrKey, api.ErrKey, `"a\xff\u3b1."`}, // the document's example
	{"a/b.c", 5, api.OK, api.OK, `"a/b.c"`},
	{"\u03b1\u03b2", 2, api.OK, api.OK, `"\u3b1.\u3b2."`},
	{"\x00", 1, api.ErrKey, api.ErrKey, `"\u0."`},
	{"\x01", 1, api.ErrKey, api.ErrKey, `"\u1."`},
	{"\t\n", 2, api.ErrKey, api.ErrKey, `"\u9.\ua."`},
	{"\x1f", 1, api.ErrKey, api.ErrKey, `"\u1f."`},
	{"a\x1f", 2, api.ErrKey, api.ErrKey, `"a\u1f."`},
	{" ", 1, api.OK, api.OK, `" "`},
	{"~", 1, api.OK, api.OK, `"~"`},
	{"\x7f", 1, api.ErrKey, api.ErrKey, `"\u7f."`},
	{"ab\x7f", 3, api.ErrKey, api.ErrKey, `"ab\u7f."`},
	{"\u0080", 1, api.OK, api.OK, `"\u80."`},
	{"\u009f", 1, api.OK, api.OK, `"\u9f."`},
	{"\u00e9/x", 3, api.OK, api.OK, `"\ue9./x"`},
	{"\u07ff\u0800", 2, api.OK, api.OK, `"\u7ff.\u800."`},
	{"\ud7ff\ue000", 2, api.OK, api.OK, `"\ud7ff.\ue000."`},
	{"\ufffd", 1, api.OK, api.OK, `"\ufffd."`},
	{"\ufffd\xef\xbf\xbd\xef", 3, api.ErrKey, api.ErrKey, `"\ufffd.\ufffd.\xef"`},
	{"\uffff\U00010000", 2, api.OK, api.OK, `"\uffff.\u10000."`},
	{"\U0001f600", 1, api.OK, api.OK, `"\u1f600."`},
	{"\U0010ffff", 1, api.OK, api.OK, `"\u10ffff."`},
	{"\"", 1, api.OK, api.OK, `"\""`},
	{"\\", 1, api.OK, api.OK, `"\\"`},
	{"a\"b\\", 4, api.OK, api.OK, `"a\"b\\"`},
	{"\\\"\\", 3, api.OK, api.OK, `"\\\"\\"`},
	{`"a"`, 3, api.OK, api.OK, `"\"a\""`},
	{`\u41.`, 5, api.OK, api.OK, `"\\u41."`},
	{`\x80`, 4, api.OK, api.OK, `"\\x80"`},
	{"'`", 2, api.OK, api.OK, "\"'`\""},
	{"e\u0301", 2, api.OK, api.OK, `"e\u301."`},
	{"\xce", 1, api.ErrKey, api.ErrKey, `"\xce"`},                                 // cut off behind one of two bytes
	{"\xce\u03b1", 2, api.ErrKey, api.ErrKey, `"\xce\u3b1."`},                     // and a right one behind it
	{"\xcea", 2, api.ErrKey, api.ErrKey, `"\xcea"`},                               // a digit behind the two
	{"\xe2\x82", 2, api.ErrKey, api.ErrKey, `"\xe2\x82"`},                         // two of three
	{"\xe2\x82a", 3, api.ErrKey, api.ErrKey, `"\xe2\x82a"`},                       //
	{"\xf0\x9f\x98", 3, api.ErrKey, api.ErrKey, `"\xf0\x9f\x98"`},                 // three of four
	{"a\x80", 2, api.ErrKey, api.ErrKey, `"a\x80"`},                               // what only follows
	{"\u03b1\xb1", 2, api.ErrKey, api.ErrKey, `"\u3b1.\xb1"`},                     // one too many follow
	{"\xc0\x80", 2, api.ErrKey, api.ErrKey, `"\xc0\x80"`},                         // too long: 0
	{"\xc1\xbf", 2, api.ErrKey, api.ErrKey, `"\xc1\xbf"`},                         // too long: 7f
	{"\xc2\x80", 1, api.OK, api.OK, `"\u80."`},                                    // just long enough
	{"\xe0\x80\xaf", 3, api.ErrKey, api.ErrKey, `"\xe0\x80\xaf"`},                 // too long: 2f
	{"\xe0\x9f\xbf", 3, api.ErrKey, api.ErrKey, `"\xe0\x9f\xbf"`},                 // too long: 7ff
	{"\xf0\x8f\xbf\xbf", 4, api.ErrKey, api.ErrKey, `"\xf0\x8f\xbf\xbf"`},         // too long: ffff
	{"\xed\x9f\xbf", 1, api.OK, api.OK, `"\ud7ff."`},                              // the last one ahead of the halves
	{"\xed\xa0\x80", 3, api.ErrKey, api.ErrKey, `"\xed\xa0\x80"`},                 // the half d800
	{"\xed\xbf\xbf", 3, api.ErrKey, api.ErrKey, `"\xed\xbf\xbf"`},                 // the half dfff
	{"\xf4\x8f\xbf\xbf", 1, api.OK, api.OK, `"\u10ffff."`},                        // the greatest
	{"\xf4\x90\x80\x80", 4, api.ErrKey, api.ErrKey, `"\xf4\x90\x80\x80"`},         // one above it
	{"\xf7\xbf\xbf\xbf", 4, api.ErrKey, api.ErrKey, `"\xf7\xbf\xbf\xbf"`},         // 1fffff
	{"\xf8\x88\x80\x80\x80", 5, api.ErrKey, api.ErrKey, `"\xf8\x88\x80\x80\x80"`}, // five bytes
	{"\xfe\xff", 2, api.ErrKey, api.ErrKey, `"\xfe\xff"`},
}

// P4.1, P4.2, P4.3: each text that is written out.
func TestTexts(t *testing.T) {
	for _, x := range texts {
		if n := runes.Count(x.s); n != x.n {
			t.Errorf("Count(%x) = %d; want %d", x.s, n, x.n)
		}
		if e := runes.Key(x.s); e != x.key {
			t.Errorf("Key(%x) = %d; want %d", x.s, e, x.key)
		}
		if e := runes.Beginning(x.s); e != x.beg {
			t.Errorf("Beginning(%x) = %d; want %d", x.s, e, x.beg)
		}
		if q := runes.Quote(x.s); q != x.q {
			t.Errorf("Quote(%x) = %s; want %s", x.s, q, x.q)
		}
		wantUnquote(t, x.q, x.s, true)
		holdsOfText(t, x.s)
		holdsOfQuoted(t, x.q)
	}
}

// P4.1: 31 to 34 runes, of one byte to four, and a wrong one at each place.
func TestHowManyRunes(t *testing.T) {
	for _, r := range []string{"a", " ", "~", "\"", "\u0080", "\u03b1", "\u20ac", "\ufffd", "\U0001f600", "\U0010ffff"} {
		for _, n := range []int{1, 2, 31, 32, 33, 34, 1000} {
			s, want := strings.Repeat(r, n), api.OK
			if n > 32 {
				want = api.ErrKey
			}
			if k, b := runes.Key(s), runes.Beginning(s); k != want || b != want || runes.Count(s) != n {
				t.Errorf("%d of %q: Key %d, Beginning %d, Count %d", n, r, k, b, runes.Count(s))
			}
			holdsOfText(t, s)
		}
		for at := range 32 {
			for _, wrong := range []string{"\x00", "\x1f", "\x7f", "\x80", "\xff", "\xce", "\xe2\x82", "\xed\xa0\x80"} {
				s := strings.Repeat(r, at) + wrong + strings.Repeat(r, 31-at)
				if k, b := runes.Key(s), runes.Beginning(s); k != api.ErrKey || b != api.ErrKey {
					t.Errorf("%q: Key %d, Beginning %d", s, k, b)
				}
			}
		}
	}
	mixed := strings.Repeat("a\u03b1\u20ac\U0001f600", 8)
	if runes.Key(mixed) != api.OK || runes.Key(mixed+"a") != api.ErrKey || runes.Beginning(mixed+"a") != api.ErrKey {
		t.Error("32 runes of one to four bytes")
	}
}

// P4.1: Begins goes by bytes, of any texts.
func TestBegins(t *testing.T) {
	for _, x := range []struct {
		key, with string
		want      bool
	}{
		{"", "", true},
		{"a", "", true},
		{"", "a", false},
		{"abc", "ab", true},
		{"abc", "abc", true},
		{"ab", "abc", false},
		{"abc", "b", false},
		{"abc", "bc", false},
		{"abc", "ac", false},
		{"ABC", "ab", false},
		{"\u03b1\u03b2", "\u03b1", true},
		{"\u03b1\u03b2", "\u03b2", false},
		{"\u03b1", "\xce", true},
		{"\u03b1", "\u03b2", false},
		{"\u00e9", "e", false},
		{"e\u0301", "e", true},
		{"\u00e9", "e\u0301", false},
		{"\xff", "\xfe", false},
		{"\xff", "\ufffd", false},
		{"\ufffd", "\xff", false},
		{"\xff\xfe", "\xff", true},
		{"a\x00b", "a\x00", true},
		{"a\x00b", "a\x00c", false},
	} {
		if got := runes.Begins(x.key, x.with); got != x.want {
			t.Errorf("Begins(%q, %q) = %v", x.key, x.with, got)
		}
	}
}

// P4.3: of keys and beginnings one begins with another just if its runes do; of all of up to three of some runes that share bytes.
func TestBeginsByRunes(t *testing.T) {
	some := []string{"a", "b", "~", "\u00ce", "\u00b1", "\u03b1", "\u03b2", "\u07b1", "\u20ac", "\u20ad", "\u2100", "\ufffd", "\U0001f600", "\U0001f601"}
	all := []string{""}
	for from, long := 0, 0; long < 3; long++ {
		to := len(all)
		for _, s := range all[from:to] {
			for _, r := range some {
				all = append(all, s+r)
			}
		}
		from = to
	}
	asked := append(slices.Clone(all[:1+len(some)+len(some)*len(some)]), all[len(all)-300:]...)
	for _, s := range all {
		if runes.Beginning(s) != api.OK {
			t.Fatalf("Beginning(%q)", s)
		}
		l := pieces(s)
		for _, with := range asked {
			w := pieces(with)
			if want := len(w) <= len(l) && slices.Equal(l[:len(w)], w); runes.Begins(s, with) != want {
				t.Fatalf("Begins(%q, %q) isn't %v", s, with, want)
			}
		}
	}
}

// P4.2: what is no text's in quotes.
func TestUnquoteOfNone(t *testing.T) {
	for _, q := range []string{
		"", `"`, "a", `a"`, `"a`, `a`, `aa`, `'a'`, "`a`", // without a quote at one end, or at both
		`"a" `, ` "a"`, `"a"b`, `b"a"`, `"a"b"`, `""a"`, `"a""`, `"""`, `""""`, `"a"""`, "\"a\"\n", `"a".`, // something behind the last one, or quotes within
		`"\"`, `"\\\"`, `"\`, `\"`, `\""`, `"a\"`, // the last one isn't a quote by itself
		`"\` + "\x00" + `"`, `"\q"`, `"\'"`, `"\n"`, `"\0"`, `"\ "`, `"\a"`, `"\."`, `"\U41."`, `"\X80"`, `"\` + "\u00e9" + `"`, // no such piece
		`"\u"`, `"\u."`, `"\u.."`, `"\u`, `"\u.`, `"\u ."`, `"\u3b1"`, `"\u3b1`, `"\u3b1 ."`, `"\u 3b1."`, `"\u3b1,"`, `"\u3b1\u3b2."`, `"\u3b1"."`, // no digits, or no point
		`"\u03b1."`, `"\u00."`, `"\u000."`, `"\u0a."`, `"\u01f."`, `"\u00000000000000000003b1."`, `"\u010ffff."`, // zeros ahead
		`"\u3B1."`, `"\uA."`, `"\u1F."`, `"\u10FFFF."`, `"\ufffD."`, // great letters
		`"\u+3b1."`, `"\u-1."`, `"\u-0."`, `"\u3_b1."`, `"\u_3b1."`, `"\u0x3b1."`, `"\ux3b1."`, `"\u3g1."`, `"\u1e2p."`, `"\u{3b1}."`, "\"\\u\u0663.\"", `"\u3b1.` + "\x00", // no such digits
		`"\u41."`, `"\u20."`, `"\u22."`, `"\u5c."`, `"\u61."`, `"\u7e."`, `"\u2e."`, // runes that stand as themselves, or behind a backslash
		`"\ud800."`, `"\udbff."`, `"\udc00."`, `"\udfff."`, `"\ud83d.\ude00."`, // halves
		`"\u110000."`, `"\u1fffff."`, `"\u200000."`, `"\u7fffffff."`, `"\u80000000."`, `"\uffffffff."`, `"\u1000003b1."`, `"\u10000000a."`, `"\u100000000000003b1."`, `"\uffffffffffffffffffffffff."`, // above the greatest
		`"\x"`, `"\x8"`, `"\xf`, `"\xff`, `"\x8 "`, `"\x 8"`, `"\xg0"`, `"\x0g"`, `"\x+8"`, `"\x-8"`, `"\x_8"`, `"\x8_"`, `"\x80."x`, `"\x"80"`, `"\x8"0"`, // no two digits
		`"\xFF"`, `"\xfF"`, `"\xFf"`, `"\xC3"`, // great letters
		`"\x00"`, `"\x0a"`, `"\x1f"`, `"\x20"`, `"\x22"`, `"\x41"`, `"\x5c"`, `"\x7e"`, `"\x7f"`, // bytes that are runes by themselves
		`"\xc3\xa9"`, `"\xce\xb1"`, `"a\xce\xb1b"`, `"\xe2\x82\xac"`, `"\xef\xbf\xbd"`, `"\xf0\x9f\x98\x80"`, `"\xf4\x8f\xbf\xbf"`, `"\xff\xce\xb1"`, `"\xce\xce\xb1"`, `"\xc2\x80\x80"`, // bytes that are a rune together
		"\"\u03b1\"", "\"\u00e9\"", "\"\ufffd\"", "\"\U0001f600\"", "\"\x00\"", "\"\n\"", "\"\x1f\"", "\"\x7f\"", "\"\x80\"", "\"\xff\"", "\"\xce\"", "\"\\xce\xb1\"", "\"\xce\\xb1\"", // not written as the document says
		`\u3b1.`, `\xff`, `\\`, // a piece without quotes
	} {
		wantUnquote(t, q, "", false)
		holdsOfQuoted(t, q)
	}
}

// P4.2: what stands beside what is no text's, but is one.
func TestUnquoteOfSome(t *testing.T) {
	for q, s := range map[string]string{
		`""`:                      "",
		`"\\u41."`:                `\u41.`,
		`"\\\""`:                  `\"`,
		`"\"\""`:                  `""`,
		`"\u0.\ua."`:              "\x00\n",
		`"\u1f. !#[]~\u7f.\u80."`: "\x1f !#[]~\x7f\u0080",
		`"\u3b1.."`:               "\u03b1.",
		`"\xc3a9"`:                "\xc3a9",
		`"\xffff"`:                "\xffff",
		`"\xc3\ua9."`:             "\xc3\u00a9",
		`"\xa9\xc3"`:              "\xa9\xc3",
		`"\xce\xce"`:              "\xce\xce",
		`"\xe2\x82\ue9."`:         "\xe2\x82\u00e9",
		`"\xe2a\x82\xac"`:         "\xe2a\x82\xac",
		`"\xc0\x80"`:              "\xc0\x80",
		`"\xed\xa0\x80"`:          "\xed\xa0\x80",
		`"\xf4\x90\x80\x80"`:      "\xf4\x90\x80\x80",
		`"\ud7ff.\ue000."`:        "\ud7ff\ue000",
		`"\ufffd.\xff"`:           "\ufffd\xff",
		`"\u10ffff."`:             "\U0010ffff",
	} {
		wantUnquote(t, q, s, true)
		holdsOfQuoted(t, q)
	}
}

// P4.1, P4.2, P4.3: each number up to above the greatest rune, as a text and as a piece in quotes.
func TestEachRune(t *testing.T) {
	for r := range 0x110800 {
		half := 0xd800 <= r && r <= 0xdfff
		right := r <= 0x10ffff && !half
		plain := 0x20 <= r && r <= 0x7e
		q := `"\u` + strconv.FormatInt(int64(r), 16) + `."`
		if !right || plain {
			wantUnquote(t, q, "", false)
		} else {
			wantUnquote(t, q, string(rune(r)), true)
		}
		if !right {
			continue
		}
		s := string(rune(r))
		if plain && (r == '"' || r == '\\') {
			q = `"\` + s + `"`
		} else if plain {
			q = `"` + s + `"`
		}
		if got := runes.Quote(s); got != q {
			t.Fatalf("Quote of the rune %x is %s", r, got)
		}
		want := api.OK
		if r < 0x20 || r == 0x7f {
			want = api.ErrKey
		}
		if k, b := runes.Key(s), runes.Beginning(s); k != want || b != want || runes.Count(s) != 1 {
			t.Fatalf("the rune %x: Key %d, Beginning %d, Count %d", r, k, b, runes.Count(s))
		}
	}
}

// P4.1, P4.2, P4.3: each byte that stands alone, between others and at both ends; and \x of each byte.
func TestEachByte(t *testing.T) {
	for c := range 256 {
		s := string([]byte{byte(c)})
		q := fmt.Sprintf(`"\x%02x"`, c)
		if c < 0x80 {
			wantUnquote(t, q, "", false)
			continue
		}
		wantUnquote(t, q, s, true)
		for _, x := range []string{s, "a" + s, s + "a", s + "0" + s, "\u03b1" + s + "\u03b1", s + s, "\ufffd" + s, s + "\ufffd"} {
			if runes.Key(x) != api.ErrKey || runes.Beginning(x) != api.ErrKey {
				t.Fatalf("%x isn't refused", x)
			}
			holdsOfText(t, x)
		}
		if got := runes.Quote(s); got != q || runes.Count(s) != 1 {
			t.Fatalf("Quote(%x) = %s, Count %d", s, got, runes.Count(s))
		}
	}
}

// P4.1, P4.2, P4.3: all texts of up to two bytes; of three and four, all of bytes at which something begins or ends.
func TestShortTexts(t *testing.T) {
	for a := range 256 {
		holdsOfText(t, string([]byte{byte(a)}))
		for b := range 256 {
			holdsOfText(t, string([]byte{byte(a), byte(b)}))
		}
	}
	edges := []byte("\x00\x1f \"\\a~\x7f\x80\x8f\x90\x9f\xa0\xbd\xbf\xc0\xc1\xc2\xdf\xe0\xe1\xec\xed\xee\xef\xf0\xf1\xf3\xf4\xf5\xf7\xf8\xff")
	follow := []byte("a\x7f\x80\x8f\x90\x9f\xa0\xbf\xc2")
	for _, a := range edges {
		for _, b := range edges {
			for _, c := range edges {
				holdsOfText(t, string([]byte{a, b, c}))
			}
			for _, c := range follow {
				for _, d := range follow {
					holdsOfText(t, string([]byte{a, b, c, d}))
				}
			}
		}
	}
}

// rows calls do with each row of up to n of the parts.
func rows(parts []string, n int, do func(string)) {
	var grow func(s string, left int)
	grow = func(s string, left int) {
		do(s)
		if left == 0 {
			return
		}
		for _, p := range parts {
			grow(s+p, left-1)
		}
	}
	grow("", n)
}

// P4.2, P4.3: of all short texts those are unquoted that are a text's in quotes, and no others; by single bytes, and by pieces.
func TestShortQuoted(t *testing.T) {
	bare := []string{`"`, `\`, "u", "x", ".", "0", "8", "a", "F", "\xce", "\n"}
	rows(bare, 4, func(s string) { holdsOfQuoted(t, s) })
	rows(bare, 5, func(s string) { holdsOfQuoted(t, `"`+s+`"`) })
	forms := []string{`a`, `0`, `.`, `"`, `\`, `\"`, `\\`, `\u`, `\u0.`, `\u1f.`, `\u20.`, `\u7e.`, `\u7f.`, `\u80.`, `\ufffd.`, `\x`, `\x7f`, `\xc2`, `\x80`, `\xe2`, `\x82`, `\xac`, `\xf0`, `\x9f`, "\u00e9", "\xff"}
	rows(forms, 3, func(s string) { holdsOfQuoted(t, `"`+s+`"`) })
	alone := []string{`\xf0`, `\x9f`, `\x98`, `\x80`, `\xe2`, `\x82`, `\xac`, `\xc2`, `\u80.`}
	rows(alone, 5, func(s string) { holdsOfQuoted(t, `"`+s+`"`) })
}

// P4.1, P4.2, P4.3: longer texts by a seed that stays, and what is in quotes with some bytes turned, taken out or put in.
func TestLongerTexts(t *testing.T) {
	r := rand.New(rand.NewSource(4))
	for range 20000 {
		var s string
		for range r.Intn(40) {
			switch r.Intn(5) {
			case 0:
				s += string([]byte{byte(r.Intn(256))})
			case 1:
				s += string(rune(r.Intn(0x110000)))
			case 2:
				whole := string(rune(0x80 + r.Intn(0x20000)))
				s += whole[:1+r.Intn(len(whole))]
			default:
				s += string(rune(r.Intn(0x80)))
			}
		}
		holdsOfText(t, s)
		q := runes.Quote(s)
		for range 5 {
			at := r.Intn(len(q) + 1)
			other := []string{"", "0", "a", "A", `"`, `\`, ".", "u", "x", "\xff"}[r.Intn(10)]
			holdsOfQuoted(t, q[:at]+other+q[min(len(q), at+r.Intn(3)):])
		}
	}
}

// P1: great texts.
func TestGreatTexts(t *testing.T) {
	n := api.MaxBytes
	for _, r := range []string{"a", "\"", "\x00", "\u03b1", "\xff", "\xe2\x82", "\ufffd"} {
		s := strings.Repeat(r, n)
		if got := runes.Count(s); got != n*len(pieces(r)) {
			t.Errorf("Count of %d times %x is %d", n, r, got)
		}
		if runes.Key(s) != api.ErrKey || runes.Beginning(s) != api.ErrKey {
			t.Errorf("%d times %x is a key", n, r)
		}
		q := runes.Quote(s)
		if one := inQuotes(r); q != `"`+strings.Repeat(one[1:len(one)-1], n)+`"` {
			t.Errorf("Quote of %d times %x", n, r)
		}
		if got, ok := runes.Unquote(q); got != s || !ok {
			t.Errorf("Unquote of the text in quotes of %d times %x", n, r)
		}
		if got, ok := runes.Unquote(q[1:]); got != "" || ok {
			t.Errorf("Unquote without the first quote, of %d times %x", n, r)
		}
	}
	for _, q := range []string{`"\u` + strings.Repeat("0", n) + `3b1."`, `"\u` + strings.Repeat("f", n) + `."`, `"` + strings.Repeat(`\u`, n) + `."`, strings.Repeat(`"`, n), strings.Repeat(`\`, n)} {
		if got, ok := runes.Unquote(q); got != "" || ok {
			t.Errorf("Unquote(%q ..) isn't refused", q[:10])
		}
	}
}

func FuzzText(f *testing.F) {
	for _, x := range texts {
		f.Add(x.s)
	}
	f.Fuzz(func(t *testing.T, s string) { holdsOfText(t, s) })
}

func FuzzQuoted(f *testing.F) {
	for _, x := range texts {
		f.Add(x.q)
	}
	f.Add(`"\u03b1."`)
	f.Add(`"\xce\xb1"`)
	f.Add(`"a"b"`)
	f.Fuzz(func(t *testing.T, q string) { holdsOfQuoted(t, q) })
}

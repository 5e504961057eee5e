package ldh

import (
	"bytes"
	"math"
	"regexp"
	"slices"
	"strings"
	"testing"

	"paronym/api"
)

// The chapter's words as patterns; (?s) since a newline is an octet like others.
var (
	modelLabel    = regexp.MustCompile(`(?s)\A[a-zA-Z0-9]([a-zA-Z0-9-]{0,61}[a-zA-Z0-9])?\z`)
	modelReserved = regexp.MustCompile(`(?s)\A..--`)
	modelACE      = regexp.MustCompile(`(?s)\A[xX][nN]--.`)
)

// modelKind is a kind by the patterns.
func modelKind(b []byte) int {
	switch {
	case !modelLabel.Match(b):
		return api.KindNone
	case modelACE.Match(b):
		return api.KindACE
	case modelReserved.Match(b):
		return api.KindFake
	}
	return api.KindPlain
}

// modelLower is the octets' small ones, by a list of letters.
func modelLower(b []byte) []byte {
	const large, small = "ABCDEFGHIJKLMNOPQRSTUVWXYZ", "abcdefghijklmnopqrstuvwxyz"
	var lower []byte
	for _, c := range b {
		if at := strings.IndexByte(large, c); at >= 0 {
			c = small[at]
		}
		lower = append(lower, c)
	}
	return lower
}

// modelHyphens is whether hyphens are where they may be, by a text that has a hyphen or another sign for each number.
func modelHyphens(s []int) bool {
	var signs strings.Builder
	for _, c := range s {
		if c == 0x2d {
			signs.WriteByte('-')
		} else {
			signs.WriteByte('a')
		}
	}
	text := signs.String()
	return !strings.HasPrefix(text, "-") && !strings.HasSuffix(text, "-") && !modelReserved.MatchString(text)
}

// texts calls what it is given with each text over an alphabet, up to a length.
func texts[T any](alphabet []T, longest int, call func(s []T)) {
	var grow func(s []T)
	grow = func(s []T) {
		call(s)
		if len(s) == longest {
			return
		}
		for _, c := range alphabet {
			grow(append(slices.Clone(s), c))
		}
	}
	grow(nil)
}

// holdKind holds Is and Kind of octets, and of their small and large forms, against the kind that is wanted.
func holdKind(t *testing.T, b []byte, want int) {
	t.Helper()
	if got := Kind(b); got != want {
		t.Errorf("Kind(%q): %d, not %d", b, got, want)
	}
	if got := Is(b); got != (want != api.KindNone) {
		t.Errorf("Is(%q): %v", b, got)
	}
	if got := Kind(Lower(b)); got != want {
		t.Errorf("Kind of %q's Lower: %d, not %d", b, got, want)
	}
}

// run is an octet, count times.
func run(c string, count int) string { return strings.Repeat(c, count) }

// kinds are labels, and others, with their kinds.
var kinds = []struct {
	text string
	kind int
}{
	// The chapter's examples.
	{"xn--a", api.KindACE}, {"ab--c", api.KindFake}, {"a-b", api.KindPlain}, {"-a", api.KindNone},
	// None, one, and how long a label may be.
	{"", api.KindNone}, {"a", api.KindPlain}, {"Z", api.KindPlain}, {"0", api.KindPlain}, {"9", api.KindPlain}, {"_", api.KindNone}, {"-", api.KindNone},
	{run("a", 62), api.KindPlain}, {run("a", 63), api.KindPlain}, {run("a", 64), api.KindNone}, {run("a", 65), api.KindNone}, {run("a", 128), api.KindNone}, {run("a", 319), api.KindNone},
	{run("-", 63), api.KindNone}, {"a" + run("-", 61) + "a", api.KindFake}, {"a" + run("-", 62) + "a", api.KindNone}, {"xn" + run("-", 60) + "a", api.KindACE},
	// A hyphen as the first, as the last, as all.
	{"a-", api.KindNone}, {"-a-", api.KindNone}, {"--", api.KindNone}, {"---", api.KindNone}, {"----", api.KindNone}, {"-----", api.KindNone},
	{"-" + run("a", 62), api.KindNone}, {run("a", 62) + "-", api.KindNone}, {run("a", 61) + "-a", api.KindPlain}, {run("a", 63) + "-", api.KindNone}, {"-ab--c", api.KindNone}, {"ab--c-", api.KindNone},
	// Hyphens at the third place, at the fourth, at both, and beside them.
	{"ab", api.KindPlain}, {"abc", api.KindPlain}, {"abcd", api.KindPlain}, {"ab-", api.KindNone}, {"ab-d", api.KindPlain}, {"abc-", api.KindNone}, {"ab--", api.KindNone},
	{"ab-d-f", api.KindPlain}, {"abc-e", api.KindPlain}, {"a--b", api.KindPlain}, {"a--bc", api.KindPlain}, {"a---b", api.KindFake}, {"abc--d", api.KindPlain}, {"ab---d", api.KindFake}, {"00--0", api.KindFake},
	{"a-b-c", api.KindPlain}, {"a-b", api.KindPlain}, {"ab-c", api.KindPlain}, {"abcd--e", api.KindPlain}, {"--ab", api.KindNone},
	// What only begins like xn--, or begins otherwise.
	{"xn", api.KindPlain}, {"xn-", api.KindNone}, {"xn--", api.KindNone}, {"xn-a", api.KindPlain}, {"xna-b", api.KindPlain}, {"xn-a-b", api.KindPlain}, {"xn---", api.KindNone}, {"xn---a", api.KindACE}, {"xn----a", api.KindACE},
	{"xa--b", api.KindFake}, {"x0--b", api.KindFake}, {"x---b", api.KindFake}, {"an--b", api.KindFake}, {"0n--b", api.KindFake}, {"nn--b", api.KindFake}, {"xx--b", api.KindFake}, {"nx--a", api.KindFake}, {"NX--a", api.KindFake}, {"-n--b", api.KindNone},
	{"axn--b", api.KindPlain}, {"aaxn--b", api.KindPlain}, {"ab--xn--a", api.KindFake}, {"xn--xn--a", api.KindACE},
	// What begins with xn-- and is no label.
	{"xn--a-", api.KindNone}, {"xn--a_", api.KindNone}, {"xn--_", api.KindNone}, {"xn--a.b", api.KindNone}, {"xn--\xc3\xa9", api.KindNone}, {"xn-- ", api.KindNone}, {"xn--a\n", api.KindNone}, {"xn--\x00", api.KindNone}, {" xn--a", api.KindNone},
	{"xn\xad\xada", api.KindNone}, {"x\xee--a", api.KindNone}, {"\xf8n--a", api.KindNone},
	{"xn--" + run("a", 58), api.KindACE}, {"xn--" + run("a", 59), api.KindACE}, {"xn--" + run("a", 60), api.KindNone}, {"xn--" + run("a", 58) + "-", api.KindNone}, {"ab--" + run("a", 59), api.KindFake}, {"ab--" + run("a", 60), api.KindNone},
}

func TestKindTableP11_1(t *testing.T) {
	for _, k := range kinds {
		holdKind(t, []byte(k.text), k.kind)
		holdKind(t, []byte(strings.ToUpper(k.text)), k.kind)
		if want := modelKind([]byte(k.text)); want != k.kind {
			t.Errorf("the test's own model tells %q as %d, not %d", k.text, want, k.kind)
		}
	}
	holdKind(t, nil, api.KindNone)
}

func TestKindNumbersP11_1(t *testing.T) {
	if Kind([]byte("a_")) != 0 || Kind([]byte("ab")) != 1 || Kind([]byte("ab--c")) != 2 || Kind([]byte("xn--c")) != 3 {
		t.Error("the kinds are other numbers than 0 to 3")
	}
}

func TestEachOctetP11_1(t *testing.T) {
	parts := "-0123456789ABCDEFGHIJKLMNOPQRSTUVWXYZabcdefghijklmnopqrstuvwxyz"
	for c := range 256 {
		sign := string([]byte{byte(c)})
		part := strings.Contains(parts, sign)
		if got := Is([]byte(sign)); got != (part && c != '-') {
			t.Errorf("Is of octet %X: %v", c, got)
		}
		if got := Is([]byte("a" + sign + "b")); got != part {
			t.Errorf("Is of octet %X in the middle: %v", c, got)
		}
		for _, long := range []int{2, 3, 4, 5, 6, 62, 63, 64} {
			for at := range long {
				b := bytes.Repeat([]byte{'b'}, long)
				b[at] = byte(c)
				holdKind(t, b, modelKind(b))
			}
		}
	}
	// The octets next to those of labels, named by the numbers.
	for _, c := range []byte{0x2c, 0x2e, 0x2f, 0x3a, 0x40, 0x5b, 0x60, 0x7b, 0x7f, 0x80, 0xad, 0xc1, 0xe1, 0xff} {
		for _, b := range [][]byte{{c}, {c, 'a'}, {'a', c}, {'a', c, 'a'}, {'x', 'n', '-', '-', c}, {'x', 'n', '-', '-', 'a', c, 'a'}, {c, 'n', '-', '-', 'a'}, {'x', c, '-', '-', 'a'}, {'x', 'n', c, '-', 'a'}, {'x', 'n', '-', c, 'a'}} {
			holdKind(t, b, api.KindNone)
		}
	}
	// The octets at the ends of letters and digits.
	for _, c := range []byte{'0', '9', 'A', 'Z', 'a', 'z'} {
		holdKind(t, []byte{c}, api.KindPlain)
		holdKind(t, []byte{c, c, '-', '-', c}, api.KindFake)
		holdKind(t, []byte{'x', 'n', '-', '-', c}, api.KindACE)
	}
}

func TestPrefixesP11_1(t *testing.T) {
	for _, x := range []string{"x", "X"} {
		for _, n := range []string{"n", "N"} {
			holdKind(t, []byte(x+n), api.KindPlain)
			holdKind(t, []byte(x+n+"-"), api.KindNone)
			holdKind(t, []byte(x+n+"--"), api.KindNone)
			holdKind(t, []byte(x+n+"--a"), api.KindACE)
			holdKind(t, []byte(x+n+"--A"), api.KindACE)
			holdKind(t, []byte(x+n+"--0"), api.KindACE)
			holdKind(t, []byte(x+n+"---"), api.KindNone)
			holdKind(t, []byte(x+n+"--a-"), api.KindNone)
			holdKind(t, []byte(x+n+"-a"), api.KindPlain)
			holdKind(t, []byte(n+x+"--a"), api.KindFake)
			holdKind(t, []byte(x+n+"--"+run("Q", 59)), api.KindACE)
			holdKind(t, []byte(x+n+"--"+run("Q", 60)), api.KindNone)
		}
	}
	// All pairs of octets ahead of the two hyphens.
	for x := range 256 {
		for n := range 256 {
			b := []byte{byte(x), byte(n), '-', '-', 'a'}
			if got, want := Kind(b), modelKind(b); got != want {
				t.Errorf("Kind(%q): %d, not %d", b, got, want)
			}
		}
	}
}

func TestAllShortOctetsP11_1(t *testing.T) {
	texts([]byte("-xnXNa0_\xc3"), 5, func(b []byte) { holdKind(t, b, modelKind(b)) })
	texts([]byte("-xnA"), 8, func(b []byte) { holdKind(t, b, modelKind(b)) })
}

func TestLengthsP11_1(t *testing.T) {
	for long := range 600 {
		for _, head := range []string{"", "-", "a-", "ab-", "ab--", "xn--", "XN--", "xN-", "_"} {
			for _, tail := range []string{"", "-", "a", "--", "_"} {
				b := []byte(head + run("b", long) + tail)
				holdKind(t, b, modelKind(b))
			}
		}
	}
	holdKind(t, bytes.Repeat([]byte("ab--"), 1<<20), api.KindNone)
	holdKind(t, bytes.Repeat([]byte{'a'}, 1<<24+63), api.KindNone)
}

func TestLowerTableP11_2(t *testing.T) {
	for _, l := range []struct{ text, want string }{
		{"", ""}, {"a", "a"}, {"A", "a"}, {"Z", "z"}, {"aBZ-\xc9", "abz-\xc9"}, {"XN--Bcher-KVA", "xn--bcher-kva"}, {"A_B.C D", "a_b.c d"}, {"-A-", "-a-"},
		{"\x40\x41\x5a\x5b", "\x40\x61\x7a\x5b"}, {"\x60\x61\x7a\x7b", "\x60\x61\x7a\x7b"}, {"\x2c\x2d\x2e\x2f\x30\x39\x3a", "\x2c\x2d\x2e\x2f\x30\x39\x3a"},
		{"\x7f\x80\xc0\xc1\xc9\xda\xdb\xdf\xe0\xff", "\x7f\x80\xc0\xc1\xc9\xda\xdb\xdf\xe0\xff"}, {"\xc3\x89\xc4\xb0\xe2\x84\xaa", "\xc3\x89\xc4\xb0\xe2\x84\xaa"}, {"\x00\x01\x1f\x20", "\x00\x01\x1f\x20"},
		{run("A", 64), run("a", 64)}, {run("Ab", 1000), run("ab", 1000)},
	} {
		if got := string(Lower([]byte(l.text))); got != l.want {
			t.Errorf("Lower(%q): %q, not %q", l.text, got, l.want)
		}
	}
	if got := Lower(nil); len(got) != 0 {
		t.Errorf("Lower of none: %q", got)
	}
}

func TestLowerEachOctetP11_2(t *testing.T) {
	for c := range 256 {
		want := byte(c)
		if c >= 0x41 && c <= 0x5a {
			want += 0x20
		}
		for _, b := range [][]byte{{byte(c)}, {byte(c), 'Q'}, {'Q', byte(c)}, {'-', byte(c), 0xff}} {
			at := bytes.IndexByte(b, byte(c))
			got := Lower(b)
			if len(got) != len(b) || got[at] != want || !bytes.Equal(got, modelLower(b)) {
				t.Errorf("Lower(%q): %q", b, got)
			}
		}
	}
}

func TestKindsAndLettersP11_2(t *testing.T) {
	texts([]byte("-xNa_\xe9Z"), 5, func(b []byte) {
		lower := Lower(b)
		if !bytes.Equal(lower, modelLower(b)) || !bytes.Equal(lower, Lower(lower)) {
			t.Errorf("Lower(%q): %q", b, lower)
		}
		if kind := Kind(b); Kind(lower) != kind || Kind(bytes.ToUpper(lower)) != kind || Is(lower) != Is(b) {
			t.Errorf("the kind of %q hangs on which letters are large", b)
		}
	})
	// Each mixture of large and small letters of one label of each kind.
	for _, k := range []struct {
		text string
		kind int
	}{{"xn--abq", api.KindACE}, {"xm--abq", api.KindFake}, {"yn--abq", api.KindFake}, {"xn-abqc", api.KindPlain}, {"xn--ab-", api.KindNone}} {
		for mixture := range 1 << len(k.text) {
			b := []byte(k.text)
			for at, c := range b {
				if mixture>>at&1 == 1 && c != '-' {
					b[at] = c - 0x20
				}
			}
			holdKind(t, b, k.kind)
			if string(Lower(b)) != k.text {
				t.Errorf("Lower(%q): %q", b, Lower(b))
			}
		}
	}
}

// wrongNumbers are no code points; some would be a hyphen if they were cut to fewer bits.
var wrongNumbers = []int{
	-1, -0x2d, 0x2d - 1<<8, 0x2d - 1<<16, 0x2d - 1<<32, math.MinInt, math.MinInt + 0x2d, math.MinInt32,
	1<<8 + 0x2d, 1<<16 + 0x2d, 1<<20 + 0x2d, 0x110000, 0x110000 + 0x2d, 1<<32 + 0x2d, 1<<40 + 0x2d, math.MaxInt32, math.MaxInt,
}

func TestHyphensTableP11_3(t *testing.T) {
	for _, h := range []struct {
		text string
		want bool
	}{
		{"", true}, {"a", true}, {"-", false}, {"aa", true}, {"-a", false}, {"a-", false}, {"--", false},
		{"abc", true}, {"a-c", true}, {"-bc", false}, {"ab-", false}, {"a--", false}, {"--a", false}, {"---", false},
		{"abcd", true}, {"ab-d", true}, {"abc-", false}, {"ab--", false}, {"a--d", true}, {"-bcd", false}, {"----", false}, {"--cd", false},
		{"abcde", true}, {"ab--e", false}, {"ab-de", true}, {"abc-e", true}, {"a---e", false}, {"a--de", true}, {"abcd-", false}, {"-b--e", false}, {"ab---", false},
		{"abc--f", true}, {"a-c-e-g", true}, {"abcd--g", true}, {"xn--a", false}, {"xn--", false}, {"XN--A", false}, {"a_b. \n", true},
		{run("a", 64), true}, {run("a", 100) + "-", false}, {run("a", 100) + "--a", true}, {"a" + run("-", 100) + "a", false}, {"a--a" + run("-", 100) + "a", true},
	} {
		s := numbers(h.text)
		if got := Hyphens(s); got != h.want {
			t.Errorf("Hyphens(%q): %v", h.text, got)
		}
		if want := modelHyphens(s); want != h.want {
			t.Errorf("the test's own model tells %q as %v", h.text, want)
		}
	}
	if !Hyphens(nil) || !Hyphens([]int{}) {
		t.Error("Hyphens of none isn't true")
	}
}

// numbers are a text's signs as code points.
func numbers(text string) []int {
	var s []int
	for _, c := range []byte(text) {
		s = append(s, int(c))
	}
	return s
}

func TestAllShortTextsP11_3(t *testing.T) {
	hold := func(s []int) {
		if got, want := Hyphens(s), modelHyphens(s); got != want {
			t.Errorf("Hyphens(%X): %v", s, got)
		}
	}
	texts([]int{'-', 'a', 0x430}, 8, hold)
	texts([]int{'-', 'x', -1, 0x2010, 0x110000, 1<<32 + 0x2d, 0x12d}, 5, hold)
}

func TestOtherNumbersP11_3(t *testing.T) {
	// Other hyphens are none here: soft, wide, and those of other scripts.
	others := append([]int{0, 0x2c, 0x2e, 0xad, 0x58a, 0x2010, 0x2011, 0x2013, 0x2212, 0xfe63, 0xff0d, 0x6d, 0x10ffff, 0xd800, 0xdfff}, wrongNumbers...)
	for _, c := range others {
		for _, s := range [][]int{{c}, {c, c}, {c, c, c}, {c, c, c, c}, {c, c, c, c, c}, {'a', 'b', c, c}, {'a', 'b', c, c, 'e'}, {'a', 'b', c, '-', 'e'}, {'a', 'b', '-', c}, {c, '-', c}} {
			if !Hyphens(s) {
				t.Errorf("Hyphens(%X) isn't true", s)
			}
		}
		for _, s := range [][]int{{c, '-'}, {'-', c}, {c, c, '-'}, {c, c, c, '-'}, {c, c, '-', '-'}, {c, c, '-', '-', c}, {'-', c, c, c}} {
			if Hyphens(s) {
				t.Errorf("Hyphens(%X) is true", s)
			}
		}
	}
	for c := range 0x3000 {
		if Hyphens([]int{c}) != (c != 0x2d) || Hyphens([]int{'a', 'b', c, c, 'e'}) != (c != 0x2d) {
			t.Errorf("Hyphens of %X", c)
		}
	}
	long := slices.Repeat([]int{'a', 'b', 'c', '-'}, 1<<20)
	if Hyphens(long) || !Hyphens(long[:len(long)-1]) {
		t.Error("Hyphens of a long text")
	}
}

func TestOctetsHandedInP11_1(t *testing.T) {
	for _, k := range kinds {
		held := []byte(k.text + "spare ROOM")
		room := held[:len(k.text)]
		before := bytes.Clone(held)
		Is(room)
		Kind(room)
		Lower(room)
		if !bytes.Equal(held, before) {
			t.Fatalf("%q was changed: %q", before, held)
		}
	}
}

func TestOctetsChangedP11_1(t *testing.T) {
	b := []byte("xn--a")
	if Kind(b) != api.KindACE {
		t.Error("xn--a is no A-label in form")
	}
	b[0] = 'y'
	if Kind(b) != api.KindFake {
		t.Error("yn--a isn't reserved alone")
	}
	b[3] = 'y'
	if Kind(b) != api.KindPlain {
		t.Error("yn-ya is reserved")
	}
	b[4] = '-'
	if Kind(b) != api.KindNone || Is(b) {
		t.Error("yn-y- is a label")
	}
}

func TestAnswerIsNewP11_2(t *testing.T) {
	held := []byte("ABC-dEspare ROOM")
	b := held[:6]
	first := Lower(b)
	second := Lower(b)
	first[0] = '?'
	first = append(first, "more and more, further than any room that there was"...)
	clear(first)
	if string(held) != "ABC-dEspare ROOM" {
		t.Errorf("an answer that was changed changed what was handed in: %q", held)
	}
	if string(second) != "abc-de" || string(Lower(b)) != "abc-de" {
		t.Error("an answer that was changed changed another one")
	}
	b[0] = 'Q'
	if string(second) != "abc-de" || string(Lower(b)) != "qbc-de" {
		t.Error("what was handed in, changed behind the call, changed an answer, or didn't change the next one")
	}
	// What has no large letters is new memory too.
	small := []byte("abc")
	same := Lower(small)
	same[0] = '?'
	if string(small) != "abc" || string(Lower(small)) != "abc" {
		t.Error("the answer of small letters is what was handed in")
	}
}

func TestTextHandedInP11_3(t *testing.T) {
	held := numbers("ab-dspare-")
	s := held[:4]
	before := slices.Clone(held)
	if !Hyphens(s) || !slices.Equal(held, before) {
		t.Error("a text that was handed in was changed")
	}
	s[3] = '-'
	if Hyphens(s) {
		t.Error("a text, changed behind the call, is told as it was")
	}
	s[3] = 'd'
	if !Hyphens(s) {
		t.Error("a text, changed back, isn't told as it was")
	}
	// Places that are beyond the end aren't looked at, though memory is there.
	if !Hyphens(numbers("abc---")[:3]) || Hyphens(numbers("ab--c")[:3]) || Is([]byte("ab--c")[:4]) || Kind([]byte("xn--ab")[:5]) != api.KindACE || Kind([]byte("xn--ab")[:4]) != api.KindNone {
		t.Error("spare room is looked at")
	}
}

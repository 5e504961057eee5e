package compose

import (
	"fmt"
	"math"
	"slices"
	"testing"

	"paronym/api"
	"paronym/data"
	"paronym/decomp"
	"paronym/field"
)

// model is rows and excluded code points, and what the chapter's words say by them: slow, and apart from the packages below.
type model struct {
	rows     []api.Row
	excluded []int
}

// one is a row of one code point.
func one(c, ccc int, decomp ...int) api.Row {
	return api.Row{First: c, Last: c, Ccc: ccc, Decomp: decomp}
}

// bundle is the model as files.
func (m model) bundle() api.Bundle {
	const form = "%04X;%s;Lo;%d;L;%s;;;;N;;;;;\n"
	var b api.Bundle
	for _, r := range m.rows {
		if r.First == r.Last {
			b.Unicode = fmt.Appendf(b.Unicode, form, r.First, "X", r.Ccc, field.Text(r.Decomp))
			continue
		}
		b.Unicode = fmt.Appendf(b.Unicode, form, r.First, "<X, First>", r.Ccc, "")
		b.Unicode = fmt.Appendf(b.Unicode, form, r.Last, "<X, Last>", r.Ccc, "")
	}
	for _, c := range m.excluded {
		b.Excluded = fmt.Appendf(b.Excluded, "%04X ; Full_Composition_Exclusion\n", c)
	}
	return b
}

// load is the model as data; nil, if Load refuses it.
func (m model) load() *data.Data {
	d, _ := data.Load(m.bundle())
	return d
}

// must is the model as data, where it is right.
func (m model) must(t *testing.T) *data.Data {
	t.Helper()
	d, wrong := data.Load(m.bundle())
	if d == nil {
		t.Fatalf("the test's own data are refused: %v", wrong)
	}
	return d
}

// row is the row that has c; the zero one, if there is none.
func (m model) row(c int) api.Row {
	for _, r := range m.rows {
		if r.First <= c && c <= r.Last {
			return r
		}
	}
	return api.Row{}
}

// full is a full decomposition, by chapter 9's words.
func (m model) full(c int) []int {
	if c >= 0xac00 && c <= 0xd7a3 {
		n := c - 0xac00
		parts := []int{0x1100 + n/588, 0x1161 + n%588/28, 0x11a7 + n%28}
		if n%28 == 0 {
			return parts[:2]
		}
		return parts
	}
	parts := m.row(c).Decomp
	if len(parts) == 0 {
		return []int{c}
	}
	var all []int
	for _, part := range parts {
		all = append(all, m.full(part)...)
	}
	return all
}

// nfd is normal form D, ordered two code points at a time.
func (m model) nfd(s []int) []int {
	var all []int
	for _, c := range s {
		all = append(all, m.full(c)...)
	}
	for at := m.swap(all); at >= 0; at = m.swap(all) {
		all[at], all[at+1] = all[at+1], all[at]
	}
	return all
}

// swap is the first place of two that must change places; -1, if there is none.
func (m model) swap(s []int) int {
	for i := 1; i < len(s); i++ {
		first, second := m.row(s[i-1]).Ccc, m.row(s[i]).Ccc
		if first > second && second != 0 {
			return i - 1
		}
	}
	return -1
}

// pair is what two code points make, by the words of chapters 7, 8 and 10.
func (m model) pair(a, b int) (int, bool) {
	switch {
	case a >= 0x1100 && a <= 0x1112 && b >= 0x1161 && b <= 0x1175:
		return 0xac00 + 588*(a-0x1100) + 28*(b-0x1161), true
	case a >= 0xac00 && a <= 0xd7a3 && (a-0xac00)%28 == 0 && b >= 0x11a8 && b <= 0x11c2:
		return a + b - 0x11a7, true
	}
	for _, r := range m.rows {
		if slices.Equal(r.Decomp, []int{a, b}) && r.Ccc == 0 && m.row(a).Ccc == 0 && !slices.Contains(m.excluded, r.First) {
			return r.First, true
		}
	}
	return 0, false
}

// starter is the place of the last one of Ccc 0; -1, if there is none.
func (m model) starter(kept []int) int {
	for i := len(kept) - 1; i >= 0; i-- {
		if m.row(kept[i]).Ccc == 0 {
			return i
		}
	}
	return -1
}

// blocked tells whether c is, by what is kept behind the starter.
func (m model) blocked(behind []int, c int) bool {
	for _, other := range behind {
		if m.row(other).Ccc >= m.row(c).Ccc || m.row(c).Ccc == 0 {
			return true
		}
	}
	return false
}

// compose is a text, composed, by the chapter's words.
func (m model) compose(s []int) []int {
	var kept []int
	for _, c := range s {
		at := m.starter(kept)
		if at >= 0 && !m.blocked(kept[at+1:], c) {
			if made, makes := m.pair(kept[at], c); makes {
				kept[at] = made
				continue
			}
		}
		kept = append(kept, c)
	}
	return kept
}

// rich has each kind of row that the chapters name.
func rich() model {
	return model{
		rows: []api.Row{
			one(0x61, 0), one(0x62, 0),
			one(0xe1, 0, 0x61, 0x301), one(0xe4, 0, 0x61, 0x308), one(0xe7, 0, 0x62, 0x327),
			one(0x300, 230), one(0x301, 230), one(0x308, 230), one(0x316, 220), one(0x323, 220), one(0x327, 202), one(0x334, 1),
			one(0x340, 230, 0x300), one(0x344, 230, 0x308, 0x301), one(0x345, 240),
			// excluded
			one(0x958, 0, 0x61, 0x327),
			// into one that is made already
			one(0x1e00, 0, 0xe1, 0x300), one(0x1e01, 0, 0x1e00, 0x345), one(0x1ea1, 0, 0x61, 0x323), one(0x1ea2, 0, 0x1ea1, 0x301),
			{First: 0x3400, Last: 0x34ff, Ccc: 0}, {First: 0x3500, Last: 0x35ff, Ccc: 9},
			{First: 0xac00, Last: 0xd7a3, Ccc: 0},
			// two of Ccc 0
			one(0xe000, 0, 0x61, 0x61), one(0xe001, 0, 0x61, 0x62), one(0xe002, 0, 0xe1, 0x62), one(0xe003, 0, 0xe000, 0x301), one(0xe004, 0, 0xe003, 0x61),
			// pairs that make nothing: of another Ccc, of a first part of another Ccc, of one part
			one(0xe010, 9, 0x61, 0x334), one(0xe011, 0, 0x301, 0x61), one(0xe012, 0, 0x301, 0x323), one(0xe013, 0, 0x62), one(0xe014, 0, 0xe010, 0x301),
			// what stands in the place of others, but can't come of a normal form D
			one(0xe015, 0, 0xe013, 0x301), one(0xe016, 0, 0x62, 0x340),
			// with Hangul; of those that arithmetic takes apart it makes what it makes
			one(0xe020, 0, 0xac00, 0x301), one(0xe021, 0, 0xac01, 0x11a8), one(0xe022, 0, 0x1100, 0x301), one(0xe023, 0, 0x1100, 0x1161), one(0xe024, 0, 0xac00, 0x11a9), one(0xe025, 0, 0x61, 0x1100), one(0xe026, 0, 0xd7a3, 0x62), one(0xe027, 0, 0x62, 0xac00), one(0xe028, 0, 0x1161, 0x11a8),
			// of code points that no row has, and those of ranges
			one(0xe030, 0, 0x378, 0x301), one(0xe031, 0, 0xd800, 0x301), one(0xe032, 0, 0x61, 0xdfff), one(0xe033, 0, 0x10ffff, 0x10ffff), one(0xe034, 0, 0x34aa, 0x35aa), one(0xe035, 0, 0x62, 0x34ff), one(0xe036, 0, 0, 0),
		},
		excluded: []int{0x340, 0x344, 0x958},
	}
}

// wrongNumbers are no code points; some would be one if they were cut to 32 or 16 bits.
var wrongNumbers = []int{
	-1, -5, -0x61, -0x301, -0xac00, math.MinInt, math.MinInt + 0x301, math.MinInt32, 0x110000, 0x110301, math.MaxInt, math.MaxInt32,
	1<<32 + 0x61, 1<<32 + 0x301, 1<<32 + 0xe1, 1<<32 + 0x1100, 1<<32 + 0x11a8, 1<<32 + 0xac00, 1<<16 + 0x61, 1<<40 + 0x301,
}

// texts are all texts of the letters, up to a length.
func texts(letters []int, most int) [][]int {
	all := [][]int{nil}
	longest := all
	for range most {
		var longer [][]int
		for _, s := range longest {
			for _, c := range letters {
				longer = append(longer, slices.Concat(s, []int{c}))
			}
		}
		all = append(all, longer...)
		longest = longer
	}
	return all
}

// many are short texts in which all kinds meet.
func many() [][]int {
	return slices.Concat(
		texts([]int{0x61, 0x301, 0x300, 0x323, 0x345, 0x334}, 5),
		texts([]int{0x61, 0x62, 0xe1, 0x301, 0x327, 0xe000, 0xe003, 0x340}, 4),
		texts([]int{0x1100, 0x1161, 0x11a8, 0xac00, 0xac01, 0x301, 0x61}, 4),
		texts([]int{0x62, 0xe027, 0xe021, 0x11a9, 0xd7a3, 0xe013, 0x323, 0x1161}, 3),
		texts([]int{0x958, 0x1e01, 0xe010, 0xe011, 0xe012, 0xe014, 0xe015, 0x344, 0x378, 0xd800, 0xdfff, 0x10ffff, 0x34aa, 0x35aa, 0, -1, 0x301}, 3),
	)
}

// check holds the calls on a text against the model.
func check(t *testing.T, d *data.Data, m model, s []int) {
	t.Helper()
	if got, want := Compose(d, s), m.compose(s); !slices.Equal(got, want) {
		t.Fatalf("Compose of %x: %x, not %x", s, got, want)
	}
	want := m.compose(m.nfd(s))
	if got := NFC(d, s); !slices.Equal(got, want) {
		t.Fatalf("NFC of %x: %x, not %x", s, got, want)
	}
	if got := Is(d, s); got != slices.Equal(s, want) {
		t.Fatalf("Is of %x: %v", s, got)
	}
	for i := 1; i < len(s); i++ {
		checkPair(t, d, m, s[i-1], s[i])
	}
}

// checkPair holds Pair against the model.
func checkPair(t *testing.T, d *data.Data, m model, a, b int) {
	t.Helper()
	made, makes := Pair(d, a, b)
	if want, wanted := m.pair(a, b); made != want || makes != wanted {
		t.Fatalf("Pair of %x and %x: %x, %v, not %x, %v", a, b, made, makes, want, wanted)
	}
}

func TestExample(t *testing.T) {
	d := model{rows: []api.Row{one(0x61, 0), one(0xe1, 0, 0x61, 0x301), one(0x301, 230), one(0x323, 220)}}.must(t)
	s, want := []int{0x61, 0x323, 0x301}, []int{0xe1, 0x323}
	if got := NFC(d, s); !slices.Equal(got, want) {
		t.Errorf("%x", got)
	}
	if got := Compose(d, s); !slices.Equal(got, want) {
		t.Errorf("%x", got)
	}
	if made, makes := Pair(d, 0x61, 0x301); made != 0xe1 || !makes {
		t.Errorf("%x, %v", made, makes)
	}
	if Is(d, s) || !Is(d, want) || !Same(d, s, want) || !Same(d, s, []int{0x61, 0x301, 0x323}) || Same(d, s, []int{0xe1}) {
		t.Error("Is, or Same")
	}
}

func TestPairP10_1(t *testing.T) {
	d := rich().must(t)
	for _, x := range []struct{ a, b, want int }{
		// a leading one and a vowel, the first and the last ones
		{0x1100, 0x1161, 0xac00}, {0x1100, 0x1175, 0xae30}, {0x1112, 0x1161, 0xd558}, {0x1112, 0x1175, 0xd788},
		// a syllable without a trailing one, and one
		{0xac00, 0x11a8, 0xac01}, {0xac00, 0x11c2, 0xac1b}, {0xd788, 0x11a8, 0xd789}, {0xd788, 0x11c2, 0xd7a3}, {0xac1c, 0x11a8, 0xac1d},
		// what makes nothing: one has it already, is beside, or stands the other way round
		{0xac1b, 0x11a8, 0}, {0xac01, 0x11c2, 0}, {0xd789, 0x11a8, 0}, {0xd7a3, 0x11a8, 0}, {0xd7a3, 0x11c2, 0}, {0xac00, 0x11a7, 0}, {0xac00, 0x11c3, 0}, {0xac00, 0x1161, 0}, {0xd7a4, 0x11a8, 0}, {0xabe4, 0x11a8, 0},
		{0x10ff, 0x1161, 0}, {0x1113, 0x1161, 0}, {0x1100, 0x1160, 0}, {0x1100, 0x1176, 0}, {0x1161, 0x1100, 0}, {0x11a8, 0xac00, 0}, {0x1100, 0x11a8, 0}, {0x1100, 0xac00, 0},
		// what Makes tells, and the same turned round
		{0x61, 0x301, 0xe1}, {0x301, 0x61, 0}, {0x61, 0x61, 0xe000}, {0x61, 0x62, 0xe001}, {0x62, 0x61, 0}, {0xe1, 0x300, 0x1e00}, {0x300, 0xe1, 0}, {0x1e00, 0x345, 0x1e01}, {0, 0, 0xe036}, {0x62, 0x340, 0xe016},
		// excluded, of Cccs that aren't 0, of one part, with others
		{0x61, 0x327, 0}, {0x308, 0x301, 0}, {0x61, 0x334, 0}, {0x301, 0x323, 0}, {0xe010, 0x301, 0}, {0x62, 0, 0}, {0xe1, 0x301, 0}, {0x61, 0x300, 0},
		// Hangul that rows tell of: arithmetic is asked first
		{0xac00, 0x301, 0xe020}, {0xac01, 0x11a8, 0xe021}, {0x1100, 0x301, 0xe022}, {0xac00, 0x11a9, 0xac02}, {0x61, 0x1100, 0xe025}, {0xd7a3, 0x62, 0xe026}, {0x62, 0xac00, 0xe027}, {0x1161, 0x11a8, 0xe028},
		// code points that no row has, surrogates, ranges
		{0x378, 0x301, 0xe030}, {0x379, 0x301, 0}, {0xd800, 0x301, 0xe031}, {0xd801, 0x301, 0}, {0x61, 0xdfff, 0xe032}, {0x10ffff, 0x10ffff, 0xe033}, {0x34aa, 0x35aa, 0xe034}, {0x34ab, 0x35aa, 0}, {0x62, 0x34ff, 0xe035},
	} {
		made, makes := Pair(d, x.a, x.b)
		if wanted := x.want != 0; made != x.want || makes != wanted {
			t.Errorf("%x and %x: %x, %v, not %x", x.a, x.b, made, makes, x.want)
		}
		checkPair(t, d, rich(), x.a, x.b)
	}
}

func TestAllPairsP10_1(t *testing.T) {
	m := rich()
	d := m.must(t)
	points := slices.Concat(wrongNumbers, []int{0x378, 0x379, 0xd800, 0xdfff, 0x10ffff, 0x10ff, 0x1100, 0x1112, 0x1113, 0x1160, 0x1161, 0x1175, 0x1176, 0x11a7, 0x11a8, 0x11c2, 0x11c3, 0xabff, 0xac01, 0xac1b, 0xac1c, 0xd788, 0xd7a4})
	for _, r := range m.rows {
		points = append(points, r.First, r.Last)
		points = append(points, r.Decomp...)
	}
	for _, a := range points {
		for _, b := range points {
			checkPair(t, d, m, a, b)
		}
	}
}

func TestHangulPairsP10_1(t *testing.T) {
	// Without rows that tell of Hangul, so that arithmetic alone does.
	m := model{rows: []api.Row{one(0x61, 0)}}
	d := m.must(t)
	for a := 0x10f0; a < 0x1200; a++ {
		for b := 0x1150; b < 0x11d0; b++ {
			checkPair(t, d, m, a, b)
		}
	}
	for a := 0xabe0; a < 0xd7c0; a++ {
		for b := 0x11a0; b < 0x11d0; b++ {
			checkPair(t, d, m, a, b)
		}
	}
	for c := 0xac00; c <= 0xd7a3; c++ {
		if got := NFC(d, []int{c}); !slices.Equal(got, []int{c}) || !Is(d, []int{c}) {
			t.Fatalf("%x: %x", c, got)
		}
	}
}

func TestComposeP10_1(t *testing.T) {
	d := rich().must(t)
	for _, x := range []struct{ s, want []int }{
		{nil, nil}, {[]int{}, nil}, {[]int{0x61}, []int{0x61}}, {[]int{0x301}, []int{0x301}}, {[]int{-1}, []int{-1}}, {[]int{0xe1}, []int{0xe1}}, {[]int{0xac01}, []int{0xac01}},
		// no starter yet
		{[]int{0x301, 0x61}, []int{0x301, 0x61}}, {[]int{0x301, 0x323}, []int{0x301, 0x323}}, {[]int{0x301, 0x301, 0x61, 0x301}, []int{0x301, 0x301, 0xe1}}, {[]int{0x308, 0x301, 0x61, 0x323}, []int{0x308, 0x301, 0x1ea1}},
		// blocked by one of the same Ccc, and not by one of a lower one
		{[]int{0x61, 0x300, 0x301}, []int{0x61, 0x300, 0x301}}, {[]int{0x61, 0x316, 0x323}, []int{0x61, 0x316, 0x323}}, {[]int{0x61, 0x316, 0x301}, []int{0xe1, 0x316}}, {[]int{0x61, 0x334, 0x316, 0x301}, []int{0xe1, 0x334, 0x316}},
		{[]int{0x61, 0x334, 0x323}, []int{0x1ea1, 0x334}}, {[]int{0x61, 0x300, 0x345, 0x301}, []int{0x61, 0x300, 0x345, 0x301}},
		// not in order: by one of a higher Ccc, at whatever place behind the starter
		{[]int{0x61, 0x345, 0x301}, []int{0x61, 0x345, 0x301}}, {[]int{0x61, 0x345, 0x334, 0x301}, []int{0x61, 0x345, 0x334, 0x301}}, {[]int{0x61, 0x300, 0x334, 0x323}, []int{0x61, 0x300, 0x334, 0x323}},
		{[]int{0x61, 0x300, 0x323, 0x301}, []int{0x61, 0x300, 0x323, 0x301}}, {[]int{0x61, 0x301, 0x323}, []int{0xe1, 0x323}}, {[]int{0x61, 0x345, 0x301, 0x61, 0x301}, []int{0x61, 0x345, 0x301, 0xe1}},
		// of Ccc 0, directly behind, and with something between
		{[]int{0x61, 0x61}, []int{0xe000}}, {[]int{0x61, 0x62}, []int{0xe001}}, {[]int{0x61, 0x300, 0x61}, []int{0x61, 0x300, 0x61}}, {[]int{0x61, 0x334, 0x62}, []int{0x61, 0x334, 0x62}}, {[]int{0x61, 0x301, 0x62}, []int{0xe002}},
		{[]int{0x61, 0x334, 0x301, 0x62}, []int{0xe1, 0x334, 0x62}}, {[]int{0x62, 0x61, 0x61}, []int{0x62, 0xe000}}, {[]int{0x61, 0x61, 0x61}, []int{0xe000, 0x61}}, {[]int{0x61, 0x61, 0x61, 0x61}, []int{0xe000, 0xe000}},
		// several, one after the other, into one starter, that is another one each time
		{[]int{0x61, 0x301, 0x300}, []int{0x1e00}}, {[]int{0x61, 0x301, 0x300, 0x345}, []int{0x1e01}}, {[]int{0x61, 0x323, 0x301}, []int{0x1ea2}}, {[]int{0x61, 0x61, 0x301, 0x61}, []int{0xe004}},
		{[]int{0x61, 0x334, 0x301, 0x300, 0x316, 0x345}, []int{0x1e01, 0x334, 0x316}}, {[]int{0x61, 0x301, 0x308}, []int{0xe1, 0x308}}, {[]int{0x61, 0x301, 0x301}, []int{0xe1, 0x301}}, {[]int{0x61, 0x301, 0x308, 0x300}, []int{0xe1, 0x308, 0x300}},
		// nothing comes apart, and each counts by its own Ccc
		{[]int{0x340}, []int{0x340}}, {[]int{0x344, 0x958, 0xe023, 0xe012}, []int{0x344, 0x958, 0xe023, 0xe012}}, {[]int{0x61, 0x340, 0x301}, []int{0x61, 0x340, 0x301}}, {[]int{0x62, 0x340}, []int{0xe016}}, {[]int{0xe1, 0x300}, []int{0x1e00}}, {[]int{0xe013, 0x301}, []int{0xe015}}, {[]int{0xe000, 0x301}, []int{0xe003}},
		// excluded, or of Cccs that aren't 0
		{[]int{0x61, 0x327}, []int{0x61, 0x327}}, {[]int{0x61, 0x334}, []int{0x61, 0x334}}, {[]int{0x61, 0x327, 0x301}, []int{0xe1, 0x327}}, {[]int{0x61, 0xe010, 0x301}, []int{0xe1, 0xe010}},
		// Hangul
		{[]int{0x1100, 0x1161}, []int{0xac00}}, {[]int{0x1100, 0x1161, 0x11a8}, []int{0xac01}}, {[]int{0xac00, 0x11a8, 0x11a9}, []int{0xac01, 0x11a9}}, {[]int{0xac00, 0x11a8, 0x11a8}, []int{0xe021}}, {[]int{0xd7a3, 0x11a8}, []int{0xd7a3, 0x11a8}},
		{[]int{0x1112, 0x1175, 0x11c2, 0x1112, 0x1175}, []int{0xd7a3, 0xd788}}, {[]int{0x1100, 0x334, 0x1161}, []int{0x1100, 0x334, 0x1161}}, {[]int{0x1100, 0x1161, 0x334, 0x11a8}, []int{0xac00, 0x334, 0x11a8}}, {[]int{0x1161, 0x1100, 0x1161}, []int{0x1161, 0xac00}},
		{[]int{0x1100, 0x301, 0x1161}, []int{0xe022, 0x1161}}, {[]int{0x1100, 0x1161, 0x301, 0x11a8}, []int{0xe020, 0x11a8}}, {[]int{0x61, 0x301, 0x1100, 0x1161, 0x11a8}, []int{0xe1, 0xac01}}, {[]int{0x61, 0x1100, 0x1161}, []int{0xe025, 0x1161}}, {[]int{0x1161, 0x11a8}, []int{0xe028}},
		{[]int{0x62, 0xac00, 0x11a8}, []int{0xe027, 0x11a8}}, {[]int{0x62, 0x1100, 0x1161, 0x11a8}, []int{0x62, 0xac01}}, {[]int{0x1112, 0x1175, 0x11c2, 0x62}, []int{0xe026}},
		// numbers that no row has are starters, whatever they are
		{[]int{0x301, -1, 0x301}, []int{0x301, -1, 0x301}}, {[]int{0x61, -1, 0x301}, []int{0x61, -1, 0x301}}, {[]int{0x61, 0x110000, 0x301}, []int{0x61, 0x110000, 0x301}}, {[]int{0x61, 1<<32 + 0x301, 0x301}, []int{0x61, 1<<32 + 0x301, 0x301}},
		{[]int{0xd800, 0x301, 0x61, 0xdfff}, []int{0xe031, 0xe032}}, {[]int{0x378, 0x323, 0x301}, []int{0xe030, 0x323}}, {[]int{0x10ffff, 0x10ffff, math.MaxInt, math.MinInt}, []int{0xe033, math.MaxInt, math.MinInt}}, {[]int{0x34aa, 0x334, 0x35aa}, []int{0xe034, 0x334}}, {[]int{0x34aa, 0x3500, 0x35aa}, []int{0x34aa, 0x3500, 0x35aa}},
	} {
		if got := Compose(d, x.s); !slices.Equal(got, x.want) {
			t.Errorf("%x: %x, not %x", x.s, got, x.want)
		}
		check(t, d, rich(), x.s)
	}
	for _, c := range wrongNumbers {
		check(t, d, rich(), []int{0x61, c, 0x301, 0x61, 0x301, c, c, 0x1100, 0x1161, c, 0x11a8})
	}
}

func TestNFCP10_1(t *testing.T) {
	d := rich().must(t)
	for _, x := range []struct{ s, want []int }{
		{nil, nil}, {[]int{}, nil}, {[]int{0x61}, []int{0x61}}, {[]int{0x301}, []int{0x301}}, {[]int{0xe1}, []int{0xe1}}, {[]int{0x378}, []int{0x378}}, {[]int{0x340}, []int{0x300}}, {[]int{0x344}, []int{0x308, 0x301}}, {[]int{0x958}, []int{0x61, 0x327}}, {[]int{0xe013}, []int{0x62}},
		// ordered ahead of it, and taken apart
		{[]int{0x61, 0x301, 0x323}, []int{0x1ea2}}, {[]int{0xe1, 0x323}, []int{0x1ea2}}, {[]int{0x61, 0x300, 0x323, 0x301}, []int{0x1ea1, 0x300, 0x301}}, {[]int{0xe1, 0x334}, []int{0xe1, 0x334}}, {[]int{0x61, 0x345, 0x300, 0x301}, []int{0x61, 0x300, 0x301, 0x345}},
		{[]int{0x61, 0x345, 0x301, 0x300, 0x334}, []int{0x1e01, 0x334}}, {[]int{0x61, 0x340, 0x301}, []int{0x61, 0x300, 0x301}}, {[]int{0x62, 0x340}, []int{0x62, 0x300}}, {[]int{0xe013, 0x301}, []int{0x62, 0x301}}, {[]int{0xe015}, []int{0x62, 0x301}}, {[]int{0xe016}, []int{0x62, 0x300}}, {[]int{0x61, 0x344}, []int{0xe4, 0x301}},
		{[]int{0x958, 0x301}, []int{0xe1, 0x327}}, {[]int{0xe010}, []int{0x61, 0x334}}, {[]int{0xe010, 0x301}, []int{0xe1, 0x334}}, {[]int{0xe014}, []int{0xe1, 0x334}}, {[]int{0xe011, 0x301}, []int{0x301, 0xe1}}, {[]int{0x61, 0xe011}, []int{0xe1, 0x61}}, {[]int{0x61, 0xe012}, []int{0x1ea2}},
		{[]int{0x61, 0xe1}, []int{0xe003}}, {[]int{0xe000, 0xe1}, []int{0xe000, 0xe1}}, {[]int{0xe002}, []int{0xe002}}, {[]int{0xe1, 0xe7}, []int{0xe002, 0x327}},
		// Hangul
		{[]int{0xac01}, []int{0xac01}}, {[]int{0xac00, 0x11a8}, []int{0xac01}}, {[]int{0x1100, 0x1161, 0x11a8, 0x11a8}, []int{0xe021}}, {[]int{0xac02, 0x11a8}, []int{0xac02, 0x11a8}}, {[]int{0xe023}, []int{0xac00}}, {[]int{0xe024}, []int{0xac02}}, {[]int{0xe023, 0x11a8}, []int{0xac01}},
		{[]int{0xe020}, []int{0xe020}}, {[]int{0xe021}, []int{0xe021}}, {[]int{0xe026}, []int{0xe026}}, {[]int{0xe027}, []int{0x62, 0xac00}}, {[]int{0xe028, 0x1100}, []int{0xe028, 0x1100}}, {[]int{0x1100, 0xe028}, []int{0xac01}}, {[]int{0x61, 0xac01}, []int{0xe025, 0xe028}},
		// numbers that aren't code points, and those that no row has
		{[]int{-5, 0x301, 0x323, 0x301}, []int{-5, 0x323, 0x301, 0x301}}, {[]int{math.MinInt, math.MaxInt, 0x110000, 0xdfff}, []int{math.MinInt, math.MaxInt, 0x110000, 0xdfff}}, {[]int{0xd800, 0x334, 0x301}, []int{0xe031, 0x334}}, {[]int{0xe034, 0x301, 0x334}, []int{0xe034, 0x334, 0x301}},
	} {
		if got := NFC(d, x.s); !slices.Equal(got, x.want) {
			t.Errorf("%x: %x, not %x", x.s, got, x.want)
		}
		if got := Is(d, x.s); got != slices.Equal(x.s, x.want) {
			t.Errorf("%x: is it: %v", x.s, got)
		}
		check(t, d, rich(), x.s)
	}
}

// A text that could be composed isn't its own normal form C, nor is one that is composed but not in order, nor one of which a part is never made.
func TestIsP10_1(t *testing.T) {
	d := rich().must(t)
	for _, x := range []struct {
		s    []int
		want bool
	}{
		{nil, true}, {[]int{}, true}, {[]int{0x61}, true}, {[]int{0x301}, true}, {[]int{0xe1}, true}, {[]int{0x61, 0x301}, false}, {[]int{0xe1, 0x334, 0x316}, true}, {[]int{0xe1, 0x316, 0x334}, false}, {[]int{0x301, 0x323}, false}, {[]int{0x323, 0x301}, true},
		{[]int{0xe1, 0x323}, false}, {[]int{0x1ea2}, true}, {[]int{0x1ea1, 0x301}, false}, {[]int{0x61, 0x300, 0x301}, true}, {[]int{0x61, 0x327}, true}, {[]int{0x958}, false}, {[]int{0x340}, false}, {[]int{0xe013}, false}, {[]int{0x62}, true},
		{[]int{0xac00}, true}, {[]int{0xd7a3}, true}, {[]int{0x1100, 0x1161}, false}, {[]int{0xac00, 0x11a8}, false}, {[]int{0xac02, 0x11a8}, true}, {[]int{0x1161, 0x1100}, true}, {[]int{0xe023}, false},
		{[]int{0x61, 0x61}, false}, {[]int{0x62, 0x61}, true}, {[]int{-1, math.MaxInt, 0xd800}, true}, {[]int{-1, 0x301, 0x323}, false},
	} {
		if got := Is(d, x.s); got != x.want {
			t.Errorf("%x: %v", x.s, got)
		}
	}
}

func TestSameP10_1(t *testing.T) {
	d := rich().must(t)
	for _, x := range []struct {
		s, t []int
		want bool
	}{
		{nil, nil, true}, {nil, []int{}, true}, {[]int{}, nil, true}, {nil, []int{0x61}, false}, {[]int{0x61}, []int{0x61}, true}, {[]int{0x61}, []int{0x62}, false}, {[]int{0x61}, []int{0x61, 0x61}, false},
		// one normal form D, but other texts; others in order alone
		{[]int{0xe1}, []int{0x61, 0x301}, true}, {[]int{0xe1, 0x323}, []int{0x1ea1, 0x301}, true}, {[]int{0xe1, 0x323}, []int{0x1ea2}, true}, {[]int{0x61, 0x301, 0x323}, []int{0x61, 0x323, 0x301}, true}, {[]int{0x345, 0x334}, []int{0x334, 0x345}, true},
		{[]int{0x61, 0x301, 0x300}, []int{0x61, 0x300, 0x301}, false}, {[]int{0x61, 0x62}, []int{0x62, 0x61}, false}, {[]int{0x301, 0x61}, []int{0x61, 0x301}, false}, {[]int{0x301, 0x61, 0x323}, []int{0x323, 0x61, 0x301}, false},
		// what is never made is the same as its parts
		{[]int{0x340}, []int{0x300}, true}, {[]int{0x958}, []int{0x61, 0x327}, true}, {[]int{0xe013}, []int{0x62}, true}, {[]int{0xe010, 0x301}, []int{0xe1, 0x334}, true}, {[]int{0xe010, 0x301}, []int{0xe014}, true}, {[]int{0xe012}, []int{0x323, 0x301}, true},
		{[]int{0xac01}, []int{0x1100, 0x1161, 0x11a8}, true}, {[]int{0xac01}, []int{0xac00, 0x11a8}, true}, {[]int{0xac01}, []int{0xac02}, false}, {[]int{0xe023}, []int{0xac00}, true}, {[]int{0xac00, 0x1161}, []int{0xac00}, false},
		{[]int{-1}, []int{-1}, true}, {[]int{-1}, []int{math.MaxInt}, false}, {[]int{1<<32 + 0x61}, []int{0x61}, false}, {[]int{0xd800}, []int{0xdfff}, false}, {[]int{-1, 0x301, 0x323}, []int{-1, 0x323, 0x301}, true},
	} {
		if got := Same(d, x.s, x.t); got != x.want {
			t.Errorf("%x and %x: %v", x.s, x.t, got)
		}
		if got := Same(d, x.t, x.s); got != x.want {
			t.Errorf("%x and %x: %v", x.t, x.s, got)
		}
	}
}

func TestManyTextsP10_1(t *testing.T) {
	m := rich()
	d := m.must(t)
	for _, s := range many() {
		check(t, d, m, s)
	}
}

func TestAllCodePointsP10_1(t *testing.T) {
	m := rich()
	d := m.must(t)
	for _, s := range [][2]int{{-0x10, 0x500}, {0x900, 0x1200}, {0x1e00, 0x1f00}, {0x33f0, 0x3610}, {0xabf0, 0xac40}, {0xd780, 0xd810}, {0xdff0, 0xe040}, {0x10fff0, 0x110010}} {
		for c := s[0]; c < s[1]; c++ {
			for _, text := range [][]int{{c}, {c, c}, {0x61, c}, {c, 0x301}, {0x61, 0x334, c}, {0x61, 0x345, c}, {c, 0x334, 0x301}, {0x1100, c}, {0xac00, c}, {c, 0x11a8}} {
				check(t, d, m, text)
			}
		}
	}
}

// manyData are all data of three code points with some Cccs, each of which is made of up to two of four, and some exclusions.
func manyData(yield func(d *data.Data, m model)) {
	decomps := texts([]int{0x41, 0x42, 0x43, 0x7f}, 2)
	for _, cccs := range [][4]int{{0, 0, 0, 230}, {0, 230, 0, 230}, {0, 0, 9, 0}, {0, 230, 9, 9}} {
		for _, excluded := range [][]int{nil, {0x42}} {
			for _, a := range decomps {
				for _, b := range decomps {
					for _, c := range decomps {
						m := model{[]api.Row{one(0x41, cccs[0], a...), one(0x42, cccs[1], b...), one(0x43, cccs[2], c...), one(0x7f, cccs[3])}, excluded}
						if d := m.load(); d != nil {
							yield(d, m)
						}
					}
				}
			}
		}
	}
}

func TestManyDataP10(t *testing.T) {
	loaded := 0
	manyData(func(d *data.Data, m model) {
		loaded++
		for _, s := range [][]int{{0x43, 0x41, 0x42, 0x7f, 0x42, 0x43, 0x41}, {0x41, 0x7f, 0x41, 0x7f, 0x7f, 0x43, 0x42}, {0x41, 0x41, 0x41, 0x43, 0x43, 0x42, 0x7f}, {0x42, 0x7f, 0x43}, {0x7f, 0x7f, 0x42, 0x42, 0x43}} {
			check(t, d, m, s)
			checkForms(t, d, s)
		}
	})
	if loaded < 1000 {
		t.Errorf("only %d of the data are right", loaded)
	}
}

func TestLongTextsP10_1(t *testing.T) {
	const count = 200000
	d := rich().must(t)
	made := NFC(d, slices.Repeat([]int{0x62, 0x301, 0x61, 0x301, 0x345, 0x300, 0x1100, 0x1161, 0x11a8}, count))
	if !slices.Equal(made, slices.Repeat([]int{0x62, 0x301, 0x1e01, 0xac01}, count)) {
		t.Error("a long text")
	}
	// Each mark is blocked, and stands far behind the starter.
	marks := slices.Concat([]int{0x61}, slices.Repeat([]int{0x300, 0x301}, count))
	if !slices.Equal(Compose(d, marks), marks) || !Is(d, marks) {
		t.Error("a starter with many marks")
	}
	// None is, and all are passed by.
	lows := slices.Concat([]int{0x61}, slices.Repeat([]int{0x334}, count))
	if got := NFC(d, append(slices.Clone(lows), 0x301)); got[0] != 0xe1 || !slices.Equal(got[1:], lows[1:]) {
		t.Error("many low marks")
	}
	alone := slices.Repeat([]int{0x301}, count)
	if !slices.Equal(Compose(d, alone), alone) {
		t.Error("marks without a starter")
	}
}

func TestDataOfNoRowsP10_1(t *testing.T) {
	d := model{}.must(t)
	for _, s := range handed() {
		check(t, d, model{}, s)
	}
	if got := NFC(d, []int{0x1100, 0x1161, 0x11a8, 0x61, 0x301, 0xac00, 0x11a8}); !slices.Equal(got, []int{0xac01, 0x61, 0x301, 0xac01}) {
		t.Errorf("%x", got)
	}
}

// checkForms holds both normal forms of a text against each other.
func checkForms(t *testing.T, d *data.Data, s []int) {
	t.Helper()
	nfd, nfc := decomp.NFD(d, s), NFC(d, s)
	if got := decomp.NFD(d, nfc); !slices.Equal(got, nfd) {
		t.Fatalf("%x: the normal form D of %x is %x, not %x", s, nfc, got, nfd)
	}
	if got := NFC(d, nfc); !slices.Equal(got, nfc) || !Is(d, nfc) {
		t.Fatalf("%x: %x isn't its own normal form C, but %x", s, nfc, got)
	}
	if got := NFC(d, nfd); !slices.Equal(got, nfc) || !slices.Equal(Compose(d, nfd), nfc) {
		t.Fatalf("%x: the normal form C of %x is %x, not %x", s, nfd, got, nfc)
	}
	if len(nfc) > len(nfd) {
		t.Fatalf("%x: %x is longer than %x", s, nfc, nfd)
	}
	if !Same(d, s, nfd) || !Same(d, nfc, s) || !Same(d, nfd, nfc) {
		t.Fatalf("%x: not the same as %x or %x", s, nfd, nfc)
	}
}

func TestFormsP10_2(t *testing.T) {
	d := rich().must(t)
	for _, s := range many() {
		checkForms(t, d, s)
	}
	for _, c := range wrongNumbers {
		checkForms(t, d, []int{c, 0x301, c, 0x323, 0x61, 0x301, c, 0x1100, 0x1161, c})
	}
}

// Two texts have one normal form C just if they have one normal form D.
func TestSameP10_2(t *testing.T) {
	m := rich()
	d := m.must(t)
	all := slices.Concat(
		texts([]int{0x61, 0xe1, 0x301, 0x300, 0x323, 0x340, 0x1ea1}, 3),
		texts([]int{0x1100, 0x1161, 0x11a8, 0xac00, 0xac01, 0xe023}, 3),
		texts([]int{0x958, 0x61, 0x327, 0xe010, 0x334, 0xe013, 0x62, -1}, 2),
	)
	same := 0
	for i, s := range all {
		nfc, nfd := NFC(d, s), m.nfd(s)
		for _, other := range all[:i+1] {
			got := Same(d, s, other)
			if got != slices.Equal(nfc, NFC(d, other)) || got != slices.Equal(nfd, m.nfd(other)) {
				t.Fatalf("%x and %x: %v", s, other, got)
			}
			if got && !slices.Equal(s, other) {
				same++
			}
		}
	}
	if same < 100 {
		t.Errorf("only %d are the same", same)
	}
}

// calls are the calls that answer texts.
func calls() map[string]func(d *data.Data, s []int) []int {
	return map[string]func(d *data.Data, s []int) []int{"Compose": Compose, "NFC": NFC}
}

// handed are texts to hand in: some that are in normal form D, some in normal form C already, some in neither.
func handed() [][]int {
	return [][]int{
		{}, {0x61}, {0x301}, {0xe1}, {0xac01}, {0x340}, {-1}, {0x378}, {0x61, 0x62}, {0x62, 0x61}, {0x61, 0x323, 0x301}, {0x61, 0x301, 0x323}, {0xe1, 0x334, 0x316}, {0x61, 0x300, 0x301}, {0x301, 0x323, 0x334},
		{0x1100, 0x1161, 0x11a8}, {0xac00, 0x11a8, 0x11a9}, {0x61, 0x301, 0x300, 0x345}, {0x1e01, 0x1ea2, 0x958, 0xe020}, {0x62, 0x1e01, 0x62, 0xac01},
	}
}

// spoil changes a list, its spare room too.
func spoil(s []int) {
	s = s[:cap(s)]
	for i := range s {
		s[i] = 0x5a5a
	}
}

func TestHandedInP10_3(t *testing.T) {
	for _, d := range []*data.Data{rich().must(t), nil} {
		for _, s := range handed() {
			room := append(slices.Clone(s), 7, 8, 9, 10, 11, 12, 13, 14)
			text, whole := room[:len(s):len(room)], slices.Clone(room)
			Compose(d, text)
			NFC(d, text)
			Is(d, text)
			Same(d, text, []int{0xe1, 0x323})
			Same(d, []int{0xe1, 0x323}, text)
			Same(d, text, text)
			if !slices.Equal(room, whole) {
				t.Fatalf("%x is changed: %x", whole, room)
			}
		}
	}
}

func TestChangedBehindP10_3(t *testing.T) {
	for _, d := range []*data.Data{rich().must(t), nil} {
		for name, call := range calls() {
			for _, s := range handed() {
				want := slices.Clone(call(d, slices.Clone(s)))
				text := slices.Clone(s)
				got := call(d, text)
				spoil(text)
				if !slices.Equal(got, want) {
					t.Fatalf("%s of %x changes with what was handed in: %x", name, s, got)
				}
				if again := call(d, slices.Clone(s)); !slices.Equal(again, want) {
					t.Fatalf("%s of %x, asked again: %x", name, s, again)
				}
			}
		}
	}
}

func TestAnswersAreNewP10_3(t *testing.T) {
	for _, d := range []*data.Data{rich().must(t), nil} {
		for name, call := range calls() {
			for _, s := range handed() {
				text := slices.Clone(s)
				first, second := call(d, text), call(d, text)
				want := slices.Clone(second)
				spoil(first)
				if !slices.Equal(second, want) || !slices.Equal(text, s) {
					t.Fatalf("%s of %x: an answer is shared", name, s)
				}
				if again := call(d, text); !slices.Equal(again, want) {
					t.Fatalf("%s of %x, asked again: %x, not %x", name, s, again, want)
				}
			}
		}
	}
}

func TestWholeDataStayP10_3(t *testing.T) {
	m := rich()
	d := m.must(t)
	for _, r := range m.rows {
		spoil(NFC(d, []int{r.First}))
		spoil(Compose(d, slices.Concat([]int{r.First}, r.Decomp)))
	}
	for _, r := range m.rows {
		check(t, d, m, []int{r.First, r.Last})
		check(t, d, m, r.Decomp)
	}
}

func TestNilDataP10_3(t *testing.T) {
	all := slices.Concat(handed(), many()[:3000], texts([]int{0x1100, 0x1161, 0x11a8, 0xac00, 0xac01}, 3))
	for _, c := range wrongNumbers {
		all = append(all, []int{c}, []int{0x61, c, 0x301})
	}
	for i, s := range all {
		if got := NFC(nil, s); !slices.Equal(got, s) || !Is(nil, s) {
			t.Fatalf("NFC of %x: %x", s, got)
		}
		if got := Compose(nil, s); !slices.Equal(got, s) {
			t.Fatalf("Compose of %x: %x", s, got)
		}
		other := all[(i+1)%len(all)]
		if !Same(nil, s, slices.Clone(s)) || Same(nil, s, other) != slices.Equal(s, other) {
			t.Fatalf("Same of %x and %x", s, other)
		}
	}
	for _, p := range [][2]int{{0x61, 0x301}, {0x1100, 0x1161}, {0x1112, 0x1175}, {0xac00, 0x11a8}, {0xd788, 0x11c2}, {0, 0}, {-1, -1}, {math.MinInt, math.MaxInt}} {
		if made, makes := Pair(nil, p[0], p[1]); made != 0 || makes {
			t.Errorf("Pair of %x: %x, %v", p, made, makes)
		}
	}
}

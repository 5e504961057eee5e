package decomp

import (
	"fmt"
	"math"
	"slices"
	"testing"

	"paronym/api"
	"paronym/data"
	"paronym/field"
)

// model is rows, and what the chapter's words say by them: slow, and apart from package data.
type model []api.Row

// one is a row of one code point.
func one(c, ccc int, decomp ...int) api.Row {
	return api.Row{First: c, Last: c, Ccc: ccc, Decomp: decomp}
}

// file is the model as UnicodeData.
func (m model) file() []byte {
	const form = "%04X;%s;Lo;%d;L;%s;;;;N;;;;;\n"
	var b []byte
	for _, r := range m {
		if r.First == r.Last {
			b = fmt.Appendf(b, form, r.First, "X", r.Ccc, field.Text(r.Decomp))
			continue
		}
		b = fmt.Appendf(b, form, r.First, "<X, First>", r.Ccc, "")
		b = fmt.Appendf(b, form, r.Last, "<X, Last>", r.Ccc, "")
	}
	return b
}

// load is the model as data; nil, if Load refuses it.
func (m model) load() *data.Data {
	d, _ := data.Load(api.Bundle{Unicode: m.file()})
	return d
}

// must is the model as data, where it is right.
func (m model) must(t *testing.T) *data.Data {
	t.Helper()
	d := m.load()
	if d == nil {
		t.Fatal("the test's own data are refused")
	}
	return d
}

// row is the row that has c; the zero one, if there is none.
func (m model) row(c int) api.Row {
	for _, r := range m {
		if r.First <= c && c <= r.Last {
			return r
		}
	}
	return api.Row{}
}

// full is a full decomposition, by the chapter's words.
func (m model) full(c int) []int {
	if c >= 0xac00 && c <= 0xd7a3 {
		n := c - 0xac00
		parts := []int{0x1100 + n/588, 0x1161 + n%588/28, 0x11a7 + n%28}
		if n%28 == 0 {
			return parts[:2]
		}
		return parts
	}
	parts := m.row(c).Decomp
	if len(parts) == 0 {
		return []int{c}
	}
	var all []int
	for _, part := range parts {
		all = append(all, m.full(part)...)
	}
	return all
}

// swap is the first place of two that must change places; -1, if there is none.
func (m model) swap(s []int) int {
	for i := 1; i < len(s); i++ {
		first, second := m.row(s[i-1]).Ccc, m.row(s[i]).Ccc
		if first > second && second != 0 {
			return i - 1
		}
	}
	return -1
}

// order is a text, ordered, two code points at a time.
func (m model) order(s []int) []int {
	s = slices.Clone(s)
	for at := m.swap(s); at >= 0; at = m.swap(s) {
		s[at], s[at+1] = s[at+1], s[at]
	}
	return s
}

// nfd is normal form D.
func (m model) nfd(s []int) []int {
	var all []int
	for _, c := range s {
		all = append(all, m.full(c)...)
	}
	return m.order(all)
}

// rich has each kind of row that the chapter names.
func rich() model {
	return model{
		one(0x61, 0), one(0x62, 0), one(0x65, 0),
		one(0xe1, 0, 0x61, 0x301), one(0xe9, 0, 0x65, 0x301),
		one(0x300, 230), one(0x301, 230), one(0x308, 230), one(0x316, 220), one(0x323, 220), one(0x327, 202), one(0x334, 1),
		one(0x340, 230, 0x300), one(0x344, 230, 0x308, 0x301), one(0x345, 240),
		one(0xf71, 129), one(0xf72, 130), one(0xf73, 0, 0xf71, 0xf72),
		one(0x1e00, 0, 0xe1, 0x323), one(0x1e01, 0, 0x1e00, 0x327), one(0x20d0, 254),
		{First: 0x3400, Last: 0x34ff, Ccc: 0}, {First: 0x3500, Last: 0x35ff, Ccc: 9},
		{First: 0xac00, Last: 0xd7a3, Ccc: 0},
		one(0xe000, 0, 0x323, 0x61), one(0xe001, 0, 0x323, 0x301), one(0xe002, 0, 0x301), one(0xe003, 0, 0xe002, 0xe002),
		one(0xe010, 0, 0xac01, 0xd7a3), one(0xe011, 0, 0xe010), one(0xe012, 0, 0xac00, 0x11a8), one(0xe013, 0, 0xe010, 0xe010),
		one(0xe020, 0, 0x378, 0x10ffff), one(0xe021, 0, 0xe020, 0x379), one(0xe022, 0, 0xd800), one(0xe023, 0, 0x378),
		one(0xe030, 0, 0x34aa, 0x35aa), one(0xe031, 9, 0x35ff), one(0xe032, 0, 0x212b), one(0xe033, 0, 0xe032),
		one(0x1d15e, 5, 0x300), one(0x1d15f, 5),
	}
}

// wrongNumbers are no code points; some would be one if they were cut to 32 or 16 bits.
var wrongNumbers = []int{
	-1, -5, -0x301, -0xac00, math.MinInt, math.MinInt + 0x301, math.MinInt32, 0x110000, 0x110301, math.MaxInt, math.MaxInt32,
	1<<32 + 0x301, 1<<32 + 0x323, 1<<32 + 0xe1, 1<<32 + 0xac01, 1<<16 + 0xac01, 1<<40 + 0x344,
}

// texts are all texts of the letters, up to a length.
func texts(letters []int, most int) [][]int {
	all := [][]int{nil}
	longest := all
	for range most {
		var longer [][]int
		for _, s := range longest {
			for _, c := range letters {
				longer = append(longer, slices.Concat(s, []int{c}))
			}
		}
		all = append(all, longer...)
		longest = longer
	}
	return all
}

// many are short texts in which all kinds meet.
func many() [][]int {
	return slices.Concat(
		texts([]int{0x61, 0xe1, 0x301, 0x300, 0x323, 0x327, 0xf73, 0xe000}, 4),
		texts([]int{0xac01, 0x340, 0x344, 0x3501, 0x1e01, 0xe003, 0xe010, 0xd800, -1, 0x378, 0x334}, 3),
		texts([]int{0x61, 0x301, 0x300, 0x323, 0x327}, 6),
	)
}

// check holds all five calls on a text against the model.
func check(t *testing.T, d *data.Data, m model, s []int) {
	t.Helper()
	if got, want := Order(d, s), m.order(s); !slices.Equal(got, want) {
		t.Fatalf("Order of %x: %x, not %x", s, got, want)
	}
	if got, want := InOrder(d, s), m.swap(s) < 0; got != want {
		t.Fatalf("InOrder of %x: %v", s, got)
	}
	want := m.nfd(s)
	if got := NFD(d, s); !slices.Equal(got, want) {
		t.Fatalf("NFD of %x: %x, not %x", s, got, want)
	}
	if got := Is(d, s); got != slices.Equal(s, want) {
		t.Fatalf("Is of %x: %v", s, got)
	}
	for _, c := range s {
		if got, want := Full(d, c), m.full(c); !slices.Equal(got, want) {
			t.Fatalf("Full of %x: %x, not %x", c, got, want)
		}
	}
}

func TestExample(t *testing.T) {
	d := model{one(0x61, 0), one(0xe1, 0, 0x61, 0x301), one(0x301, 230), one(0x323, 220)}.must(t)
	s, want := []int{0x61, 0x301, 0x323}, []int{0x61, 0x323, 0x301}
	if got := NFD(d, s); !slices.Equal(got, want) {
		t.Errorf("%x", got)
	}
	if got := NFD(d, []int{0xe1, 0x323}); !slices.Equal(got, want) {
		t.Errorf("%x", got)
	}
	if got := Full(d, 0xe1); !slices.Equal(got, []int{0x61, 0x301}) {
		t.Errorf("%x", got)
	}
	if Is(d, s) || !Is(d, want) {
		t.Error("Is")
	}
}

func TestFullP9_1(t *testing.T) {
	d := rich().must(t)
	for _, x := range []struct {
		c    int
		want []int
	}{
		{0x61, []int{0x61}}, {0x301, []int{0x301}}, {0xe1, []int{0x61, 0x301}}, {0x340, []int{0x300}}, {0x344, []int{0x308, 0x301}}, {0xf73, []int{0xf71, 0xf72}},
		// what stands in decompositions comes apart, and isn't ordered
		{0x1e00, []int{0x61, 0x301, 0x323}}, {0x1e01, []int{0x61, 0x301, 0x323, 0x327}}, {0xe000, []int{0x323, 0x61}}, {0xe002, []int{0x301}}, {0xe003, []int{0x301, 0x301}}, {0x1d15e, []int{0x300}},
		// syllables, alone and in decompositions
		{0xabff, []int{0xabff}}, {0xac00, []int{0x1100, 0x1161}}, {0xac01, []int{0x1100, 0x1161, 0x11a8}}, {0xac1b, []int{0x1100, 0x1161, 0x11c2}}, {0xac1c, []int{0x1100, 0x1162}},
		{0xd55c, []int{0x1112, 0x1161, 0x11ab}}, {0xd788, []int{0x1112, 0x1175}}, {0xd7a3, []int{0x1112, 0x1175, 0x11c2}}, {0xd7a4, []int{0xd7a4}}, {0x1100, []int{0x1100}}, {0x1161, []int{0x1161}}, {0x11a8, []int{0x11a8}},
		{0xe010, []int{0x1100, 0x1161, 0x11a8, 0x1112, 0x1175, 0x11c2}}, {0xe011, []int{0x1100, 0x1161, 0x11a8, 0x1112, 0x1175, 0x11c2}}, {0xe012, []int{0x1100, 0x1161, 0x11a8}},
		{0xe013, []int{0x1100, 0x1161, 0x11a8, 0x1112, 0x1175, 0x11c2, 0x1100, 0x1161, 0x11a8, 0x1112, 0x1175, 0x11c2}},
		// code points that no row has, and those of ranges
		{0x378, []int{0x378}}, {0x10ffff, []int{0x10ffff}}, {0, []int{0}}, {0xe020, []int{0x378, 0x10ffff}}, {0xe021, []int{0x378, 0x10ffff, 0x379}}, {0xe022, []int{0xd800}}, {0xe023, []int{0x378}},
		{0xe030, []int{0x34aa, 0x35aa}}, {0xe031, []int{0x35ff}}, {0xe032, []int{0x212b}}, {0xe033, []int{0x212b}}, {0x3400, []int{0x3400}}, {0x3480, []int{0x3480}}, {0x34ff, []int{0x34ff}}, {0x3501, []int{0x3501}},
		{0xd800, []int{0xd800}}, {0xdfff, []int{0xdfff}},
	} {
		if got := Full(d, x.c); !slices.Equal(got, x.want) {
			t.Errorf("%x: %x, not %x", x.c, got, x.want)
		}
	}
	for _, c := range wrongNumbers {
		if got := Full(d, c); !slices.Equal(got, []int{c}) {
			t.Errorf("%x: %x", c, got)
		}
	}
}

func TestAllCodePointsP9_1(t *testing.T) {
	m := rich()
	d := m.must(t)
	for c := -0x400; c < 0x110400; c++ {
		want := m.full(c)
		if got := Full(d, c); !slices.Equal(got, want) {
			t.Fatalf("Full of %x: %x, not %x", c, got, want)
		}
	}
	// Two of the same never change places, and any of a Ccc beyond 0 does with one of a greater one ahead.
	for _, s := range [][2]int{{0, 0x500}, {0xf00, 0x1200}, {0x3400, 0x3600}, {0xabf0, 0xac20}, {0xd780, 0xe040}, {0x1d150, 0x1d160}, {0x10fff0, 0x110010}} {
		for c := s[0]; c < s[1]; c++ {
			for _, text := range [][]int{{c}, {c, c}, {0x20d0, c}, {c, 0x334}, {0x20d0, c, 0x334}} {
				check(t, d, m, text)
			}
		}
	}
}

func TestOrderP9_1(t *testing.T) {
	d := rich().must(t)
	for _, x := range []struct{ s, want []int }{
		{nil, nil}, {[]int{0x61}, []int{0x61}}, {[]int{0x301}, []int{0x301}}, {[]int{-1}, []int{-1}},
		// many Cccs, falling ones alone, equal ones
		{[]int{0x20d0, 0x345, 0x301, 0x323, 0x327, 0xf72, 0xf71, 0x3501, 0x1d15f, 0x334}, []int{0x334, 0x1d15f, 0x3501, 0xf71, 0xf72, 0x327, 0x323, 0x301, 0x345, 0x20d0}},
		{[]int{0x334, 0x1d15f, 0x3501, 0xf71, 0xf72, 0x327, 0x323, 0x301, 0x345, 0x20d0}, []int{0x334, 0x1d15f, 0x3501, 0xf71, 0xf72, 0x327, 0x323, 0x301, 0x345, 0x20d0}},
		{[]int{0x301, 0x300, 0x308, 0x301}, []int{0x301, 0x300, 0x308, 0x301}}, {[]int{0x301, 0x323, 0x300, 0x316, 0x308, 0x323}, []int{0x323, 0x316, 0x323, 0x301, 0x300, 0x308}},
		// one of Ccc 0 between, at the front, at the end
		{[]int{0x301, 0x61, 0x323}, []int{0x301, 0x61, 0x323}}, {[]int{0x301, 0x323, 0x61, 0x301, 0x327}, []int{0x323, 0x301, 0x61, 0x327, 0x301}},
		{[]int{0x61, 0x301, 0x323}, []int{0x61, 0x323, 0x301}}, {[]int{0x301, 0x323, 0x61}, []int{0x323, 0x301, 0x61}}, {[]int{0x62, 0x61, 0x65, 0x61}, []int{0x62, 0x61, 0x65, 0x61}},
		{[]int{0x301, 0x378, 0x323}, []int{0x301, 0x378, 0x323}}, {[]int{0x301, -1, 0x323}, []int{0x301, -1, 0x323}}, {[]int{0x301, 0xd800, 0x323}, []int{0x301, 0xd800, 0x323}},
		{[]int{0x301, 1<<32 + 0x323, 0x323, 0x110301, 0x301, 0x323}, []int{0x301, 1<<32 + 0x323, 0x323, 0x110301, 0x323, 0x301}},
		// nothing comes apart, and each counts by its own Ccc
		{[]int{0x301, 0x340, 0x323, 0xe1, 0x344, 0x3500}, []int{0x323, 0x301, 0x340, 0xe1, 0x3500, 0x344}}, {[]int{0xf73, 0x334, 0xf73}, []int{0xf73, 0x334, 0xf73}},
		{[]int{0x301, 0xac01, 0x323}, []int{0x301, 0xac01, 0x323}}, {[]int{0x301, 0x34aa, 0x35aa, 0x301, 0x3500, 0x35ff}, []int{0x301, 0x34aa, 0x35aa, 0x3500, 0x35ff, 0x301}},
	} {
		if got := Order(d, x.s); !slices.Equal(got, x.want) {
			t.Errorf("%x: %x, not %x", x.s, got, x.want)
		}
		if got := InOrder(d, x.s); got != slices.Equal(x.s, x.want) {
			t.Errorf("%x: in order: %v", x.s, got)
		}
	}
}

func TestNFDP9_1(t *testing.T) {
	d := rich().must(t)
	for _, x := range []struct{ s, want []int }{
		{nil, nil}, {[]int{}, nil}, {[]int{0x61}, []int{0x61}}, {[]int{0x378}, []int{0x378}}, {[]int{0xe1}, []int{0x61, 0x301}}, {[]int{0x340}, []int{0x300}},
		{[]int{0x1e00}, []int{0x61, 0x323, 0x301}}, {[]int{0x1e01}, []int{0x61, 0x327, 0x323, 0x301}}, {[]int{0x1e01, 0x334, 0x1e00}, []int{0x61, 0x334, 0x327, 0x323, 0x301, 0x61, 0x323, 0x301}},
		// of Ccc 0, with a decomposition that begins or ends with one of another Ccc
		{[]int{0xe1, 0x323}, []int{0x61, 0x323, 0x301}}, {[]int{0x301, 0xe000}, []int{0x323, 0x301, 0x61}}, {[]int{0xe1, 0xe000}, []int{0x61, 0x323, 0x301, 0x61}}, {[]int{0x61, 0x301, 0xf73, 0x334}, []int{0x61, 0x334, 0xf71, 0xf72, 0x301}},
		{[]int{0xe002, 0x323, 0xe001}, []int{0x323, 0x323, 0x301, 0x301}}, {[]int{0x308, 0xe002, 0x300}, []int{0x308, 0x301, 0x300}}, {[]int{0x344, 0x323}, []int{0x323, 0x308, 0x301}},
		// a Ccc that isn't that of its decomposition: that one's counts
		{[]int{0x1d15e, 0x323}, []int{0x323, 0x300}}, {[]int{0x1d15f, 0x334}, []int{0x334, 0x1d15f}},
		// syllables in the middle, at the front, at the end
		{[]int{0x61, 0xac01, 0x62}, []int{0x61, 0x1100, 0x1161, 0x11a8, 0x62}}, {[]int{0xac00, 0x11a8}, []int{0x1100, 0x1161, 0x11a8}}, {[]int{0xd7a3, 0xac00}, []int{0x1112, 0x1175, 0x11c2, 0x1100, 0x1161}},
		{[]int{0x301, 0xd788, 0x323}, []int{0x301, 0x1112, 0x1175, 0x323}}, {[]int{0xe010, 0x301, 0x323}, []int{0x1100, 0x1161, 0x11a8, 0x1112, 0x1175, 0x11c2, 0x323, 0x301}},
		// ranges, and what no row has
		{[]int{0xe030, 0x301, 0x3500}, []int{0x34aa, 0x35aa, 0x3500, 0x301}}, {[]int{0xe020, 0xd800, 0x301, 0x327}, []int{0x378, 0x10ffff, 0xd800, 0x327, 0x301}},
		{[]int{-5, 0x301, 0x323, 0x301}, []int{-5, 0x323, 0x301, 0x301}}, {[]int{math.MinInt, math.MaxInt, 0x110000, 0xdfff}, []int{math.MinInt, math.MaxInt, 0x110000, 0xdfff}},
	} {
		if got := NFD(d, x.s); !slices.Equal(got, x.want) {
			t.Errorf("%x: %x, not %x", x.s, got, x.want)
		}
		if got := Is(d, x.s); got != slices.Equal(x.s, x.want) {
			t.Errorf("%x: is it: %v", x.s, got)
		}
	}
	for _, c := range wrongNumbers {
		check(t, d, rich(), []int{0x301, c, 0x323, 0x316, c, c, 0x344, 0x327})
	}
}

// A text in order that would come apart isn't its own normal form D, nor is one that stays as long but isn't in order.
func TestIsP9_1(t *testing.T) {
	d := rich().must(t)
	for _, x := range []struct {
		s    []int
		want bool
	}{
		{nil, true}, {[]int{0x61}, true}, {[]int{0x340}, false}, {[]int{0x300}, true}, {[]int{0xe023}, false}, {[]int{0x378}, true}, {[]int{0xac00}, false}, {[]int{0x1100, 0x1161}, true},
		{[]int{0x61, 0x323, 0x301}, true}, {[]int{0x61, 0x301, 0x323}, false}, {[]int{0x61, 0x301, 0x300}, true}, {[]int{0x61, 0x61, 0xe1}, false}, {[]int{-1, math.MaxInt, 0xd800}, true}, {[]int{0x301, 0x61, 0x323}, true},
		{[]int{0x3501, 0x34aa}, true}, {[]int{0x301, 0x3501}, false},
	} {
		if got := Is(d, x.s); got != x.want {
			t.Errorf("%x: %v", x.s, got)
		}
	}
}

func TestManyTextsP9_1(t *testing.T) {
	m := rich()
	d := m.must(t)
	for _, s := range many() {
		check(t, d, m, s)
	}
}

func TestManyDataP9_1(t *testing.T) {
	points := []int{0x41, 0x42, 0x43, 0x7f, 0xac01}
	// None, and all of one or two of the code points.
	decomps := texts(points, 2)
	loaded := 0
	for _, a := range decomps {
		for _, b := range decomps {
			for _, c := range decomps {
				m := model{one(0x41, 0, a...), one(0x42, 230, b...), one(0x43, 9, c...), one(0x7f, 1)}
				d := m.load()
				if d == nil {
					continue
				}
				loaded++
				check(t, d, m, []int{0x43, 0x41, 0x42, 0x7f, 0xac01, 0x42, 0x43, 0x41})
			}
		}
	}
	if loaded < 1000 {
		t.Errorf("only %d of the data are right", loaded)
	}
}

func TestLongChainsP9_1(t *testing.T) {
	const first, count = 0x20000, 70000
	for name, step := range map[string]int{"up": 1, "down": -1} {
		var m model
		for i := range count {
			m = append(m, one(first+i, 0, first+i+step))
		}
		if step > 0 {
			m = append(m, one(first+count, 0, 0x61, 0x301))
		}
		d := m.must(t)
		from, want := first+count-1, []int{first - 1}
		if step > 0 {
			from, want = first, []int{0x61, 0x301}
		}
		if got := Full(d, from); !slices.Equal(got, want) {
			t.Errorf("%s: %x", name, got)
		}
		if got := NFD(d, []int{from, 0x41, from}); !slices.Equal(got, slices.Concat(want, []int{0x41}, want)) {
			t.Errorf("%s: %x", name, got)
		}
	}
}

func TestLongRunsP9_1(t *testing.T) {
	const rounds = 400
	var m model
	for ccc := 1; ccc <= 254; ccc++ {
		m = append(m, one(0x800+2*ccc, ccc), one(0x801+2*ccc, ccc))
	}
	d := m.must(t)
	var falling, want []int
	for i := range rounds {
		for ccc := 254; ccc > 0; ccc-- {
			falling = append(falling, 0x800+2*ccc+i%2)
		}
	}
	for ccc := 1; ccc <= 254; ccc++ {
		for i := range rounds {
			want = append(want, 0x800+2*ccc+i%2)
		}
	}
	for name, got := range map[string][]int{"Order": Order(d, falling), "NFD": NFD(d, falling)} {
		if !slices.Equal(got, want) {
			t.Errorf("%s: a long run", name)
		}
	}
	if InOrder(d, falling) || !InOrder(d, want) || Is(d, falling) || !Is(d, want) {
		t.Error("whether a long run is in order")
	}
}

func TestDataOfNoRowsP9_1(t *testing.T) {
	d := model{}.must(t)
	for _, s := range handed() {
		check(t, d, nil, s)
	}
	if got := NFD(d, []int{0x301, 0xac01, 0xe1, 0x323}); !slices.Equal(got, []int{0x301, 0x1100, 0x1161, 0x11a8, 0xe1, 0x323}) {
		t.Errorf("%x", got)
	}
}

// stays tells whether what is of Ccc 0 is at its place in both, and what is of one Ccc in one order.
func stays(m model, s, ordered []int) bool {
	if len(s) != len(ordered) {
		return false
	}
	var a, b [255][]int
	for i, c := range s {
		other := ordered[i]
		if zero := m.row(c).Ccc == 0; zero != (m.row(other).Ccc == 0) {
			return false
		}
		a[m.row(c).Ccc] = append(a[m.row(c).Ccc], c)
		b[m.row(other).Ccc] = append(b[m.row(other).Ccc], other)
	}
	return slices.EqualFunc(a[:], b[:], slices.Equal[[]int])
}

func TestOrderedP9_2(t *testing.T) {
	m := rich()
	d := m.must(t)
	for _, s := range many() {
		ordered, nfd := Order(d, s), NFD(d, s)
		if !InOrder(d, ordered) || !InOrder(d, nfd) || InOrder(d, s) != slices.Equal(s, ordered) {
			t.Fatalf("%x: not in order: %x, %x", s, ordered, nfd)
		}
		if !stays(m, s, ordered) {
			t.Fatalf("%x: %x: what is alike doesn't stay in its order", s, ordered)
		}
		if got := NFD(d, nfd); !slices.Equal(got, nfd) || !Is(d, nfd) {
			t.Fatalf("%x: %x isn't its own normal form D, but %x", s, nfd, got)
		}
		if got := NFD(d, ordered); !slices.Equal(Order(d, ordered), ordered) || !slices.Equal(tally(got), tally(nfd)) {
			t.Fatalf("%x: %x", s, got)
		}
	}
}

func TestJoinedP9_2(t *testing.T) {
	m := rich()
	d := m.must(t)
	letters := []int{0x61, 0xe1, 0x301, 0x300, 0x323, 0x334, 0xf73, 0xe000, 0xac00, 0x11a8, 0x344, 0x1e01, -1}
	halves := texts(letters, 2)
	for _, a := range halves {
		for _, b := range halves {
			both := slices.Concat(a, b)
			got, want := NFD(d, both), NFD(d, slices.Concat(NFD(d, a), NFD(d, b)))
			if !slices.Equal(got, want) || !slices.Equal(got, m.nfd(both)) {
				t.Fatalf("%x and %x: %x, not %x", a, b, got, want)
			}
		}
	}
	// The marks of the second one go ahead of those of the first one.
	if got := NFD(d, slices.Concat(NFD(d, []int{0x61, 0x301}), NFD(d, []int{0x323, 0x62}))); !slices.Equal(got, []int{0x61, 0x323, 0x301, 0x62}) {
		t.Errorf("%x", got)
	}
}

// tally are a text's code points, rising.
func tally(s []int) []int {
	return slices.Sorted(slices.Values(s))
}

func TestCountsP9_2(t *testing.T) {
	d := rich().must(t)
	for _, s := range many() {
		var parts []int
		for _, c := range s {
			parts = append(parts, Full(d, c)...)
		}
		back := slices.Clone(s)
		slices.Reverse(back)
		want := tally(parts)
		for _, text := range [][]int{s, back, tally(s), Order(d, s)} {
			if got := tally(NFD(d, text)); !slices.Equal(got, want) {
				t.Fatalf("%x: %x, not %x", text, got, want)
			}
		}
		if !slices.Equal(tally(Order(d, s)), tally(s)) {
			t.Fatalf("%x: Order loses or makes some", s)
		}
	}
}

// calls are the calls that answer texts.
func calls() map[string]func(d *data.Data, s []int) []int {
	return map[string]func(d *data.Data, s []int) []int{
		"Order": Order, "NFD": NFD,
		"Full": func(d *data.Data, s []int) []int { return Full(d, append(s, 0x61)[0]) },
	}
}

// handed are texts to hand in: some that are in order, or their own normal form D, already.
func handed() [][]int {
	return [][]int{
		{}, {0x61}, {0x301}, {0xe1}, {0xac01}, {0x1e01}, {-1}, {0x378}, {0x61, 0x323, 0x301}, {0x61, 0x301, 0x323}, {0x301, 0x323, 0x327, 0x334}, {0x334, 0x327, 0x323, 0x301},
		{0xe1, 0x323, 0xac01, 0xe010}, {0x62, 0x61}, {0x344, 0x340, 0x323}, {0x61, 0x62, 0x65, 0x34aa},
	}
}

// spoil changes a list, its spare room too.
func spoil(s []int) {
	s = s[:cap(s)]
	for i := range s {
		s[i] = 0x5a5a
	}
}

func TestHandedInP9_3(t *testing.T) {
	for _, d := range []*data.Data{rich().must(t), nil} {
		for _, s := range handed() {
			room := append(slices.Clone(s), 7, 8, 9, 10, 11, 12, 13, 14)
			text, whole := room[:len(s):len(room)], slices.Clone(room)
			Order(d, text)
			NFD(d, text)
			InOrder(d, text)
			Is(d, text)
			if !slices.Equal(room, whole) {
				t.Fatalf("%x is changed: %x", whole, room)
			}
		}
	}
}

func TestChangedBehindP9_3(t *testing.T) {
	for _, d := range []*data.Data{rich().must(t), nil} {
		for name, call := range calls() {
			for _, s := range handed() {
				want := call(d, slices.Clone(s))
				text := slices.Clone(s)
				got := call(d, text)
				spoil(text)
				if !slices.Equal(got, want) {
					t.Fatalf("%s of %x changes with what was handed in: %x", name, s, got)
				}
				if again := call(d, slices.Clone(s)); !slices.Equal(again, want) {
					t.Fatalf("%s of %x, asked again: %x", name, s, again)
				}
			}
		}
	}
}

func TestAnswersAreNewP9_3(t *testing.T) {
	for _, d := range []*data.Data{rich().must(t), nil} {
		for name, call := range calls() {
			for _, s := range handed() {
				text := slices.Clone(s)
				first, second := call(d, text), call(d, text)
				want := slices.Clone(second)
				spoil(first)
				if !slices.Equal(second, want) || !slices.Equal(text, s) {
					t.Fatalf("%s of %x: an answer is shared", name, s)
				}
				if again := call(d, text); !slices.Equal(again, want) {
					t.Fatalf("%s of %x, asked again: %x, not %x", name, s, again, want)
				}
			}
		}
	}
}

func TestWholeDataStaysP9_3(t *testing.T) {
	m := rich()
	d := m.must(t)
	for _, r := range m {
		spoil(Full(d, r.First))
		spoil(NFD(d, []int{r.First}))
	}
	for _, r := range m {
		check(t, d, m, []int{r.First, r.Last})
	}
}

func TestNilDataP9_3(t *testing.T) {
	all := slices.Concat(handed(), many()[:3000])
	for _, c := range wrongNumbers {
		all = append(all, []int{c}, []int{0x301, c, 0x323})
	}
	for _, s := range all {
		if got := NFD(nil, s); !slices.Equal(got, s) || !Is(nil, s) {
			t.Fatalf("NFD of %x: %x", s, got)
		}
		if got := Order(nil, s); !slices.Equal(got, s) || !InOrder(nil, s) {
			t.Fatalf("Order of %x: %x", s, got)
		}
		for _, c := range s {
			if got := Full(nil, c); !slices.Equal(got, []int{c}) {
				t.Fatalf("Full of %x: %x", c, got)
			}
		}
	}
}

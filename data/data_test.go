package data

import (
	"bytes"
	"fmt"
	"math"
	"math/bits"
	"slices"
	"strings"
	"testing"

	"paronym/api"
	"paronym/field"
)

// row is a line of UnicodeData of one code point.
func row(c, ccc int, decomp ...int) string {
	return fmt.Sprintf("%04X;X;Lo;%d;L;%s;;;;N;;;;;\n", c, ccc, field.Text(decomp))
}

// rangeRows are the two lines of a range.
func rangeRows(first, last, ccc int) string {
	const form = "%04X;<X, %s>;Lo;%d;L;;;;;N;;;;;\n"
	return fmt.Sprintf(form, first, "First", ccc) + fmt.Sprintf(form, last, "Last", ccc)
}

// rows is a bundle of UnicodeData alone.
func rows(lines ...string) api.Bundle {
	return api.Bundle{Unicode: []byte(strings.Join(lines, ""))}
}

// excluding is a bundle with some code points excluded.
func excluding(b api.Bundle, points ...int) api.Bundle {
	for _, c := range points {
		b.Excluded = fmt.Appendf(b.Excluded, "%04X ; Full_Composition_Exclusion\n", c)
	}
	return b
}

// must loads a bundle that is right.
func must(t *testing.T, b api.Bundle) *Data {
	t.Helper()
	d, where := Load(b)
	if d == nil || where != (api.Where{}) {
		t.Fatalf("%v", where)
	}
	return d
}

// expect holds what Load tells against an error of the files together, or none.
func expect(t *testing.T, name string, b api.Bundle, want api.Errno) {
	t.Helper()
	whole := api.Where{}
	if want != api.OK {
		whole = api.Where{File: 1, Err: want}
	}
	if d, where := Load(b); where != whole || (d == nil) != (want != api.OK) {
		t.Errorf("%s: %v, not %v", name, where, whole)
	}
}

// files are a bundle's files, in their order, from place 0 on.
func files(b *api.Bundle) []*[]byte {
	return []*[]byte{&b.Unicode, &b.Excluded, &b.Ignored, &b.Idna, &b.Scripts, &b.Joining, &b.Confus}
}

// full is a bundle with something in each file.
func full() api.Bundle {
	return api.Bundle{
		Unicode:  []byte("# UnicodeData\n" + row(0x41, 0) + row(0xc5, 0, 0x41, 0x30a) + row(0x30a, 230) + row(0x212b, 0, 0xc5)),
		Excluded: []byte("212B ; Full_Composition_Exclusion # ANGSTROM\n0340..0341 ; Full_Composition_Exclusion\n00C5 ; NFD_QC; N\n0041 ; Default_Ignorable_Code_Point\n"),
		Ignored:  []byte("00AD ; Default_Ignorable_Code_Point\n200B..200F ; Default_Ignorable_Code_Point\n0041 ; Alphabetic\n0042 ; Full_Composition_Exclusion\n"),
		Idna:     []byte("0061..007A ; PVALID\n200C..200D ; CONTEXTJ\n00B7 ; CONTEXTO\n0041..005A ; DISALLOWED\n0378 ; UNASSIGNED\n0020 ; pvalid\n0021 ; PVALI\n0022 ; x ; PVALID\n"),
		Scripts:  []byte("0041..005A ; Latin\n0061..007A ; Latin\n0430 ; Cyrillic\n00AD ; anything at all\n"),
		Joining:  []byte("0628 ; D\n0627 ; R\n200D ; C\n"),
		Confus:   []byte("0430 ; 0061 ; MA\n006D ; 0072 006E ; MA\n"),
	}
}

func TestLoadRightP7_1(t *testing.T) {
	nothing := [][]byte{nil, {}, []byte("\n"), []byte("# remark\r\n \t\n")}
	for _, file := range nothing {
		b := api.Bundle{}
		for _, f := range files(&b) {
			*f = file
		}
		d := must(t, b)
		if d.Unicode().Len() != 0 || d.Confus().Len() != 0 || len(d.Points()) != 0 || d.Status(0x61) != "UNASSIGNED" {
			t.Errorf("%q: not empty", file)
		}
	}
	must(t, full())
	for i := range 7 {
		// Each file by itself, and all but one.
		alone, without, whole := api.Bundle{}, full(), full()
		*files(&alone)[i] = *files(&whole)[i]
		*files(&without)[i] = nil
		must(t, alone)
		must(t, without)
	}
}

// wrongFiles are files that are wrong, by their numbers, each with its line and its error.
func wrongFiles() map[int][]struct {
	file string
	line int
	err  api.Errno
} {
	type wrong = struct {
		file string
		line int
		err  api.Errno
	}
	long := strings.TrimSuffix(strings.Repeat("0061 ", 19), " ")
	of := func(value string) []wrong {
		return []wrong{
			{"x", 1, api.ErrField}, {"\n#\n0041", 3, api.ErrField},
			{"0041;x\n41;" + value, 2, api.ErrHex}, {"0041..0040;" + value, 1, api.ErrRange}, {"\n0041..0041;x", 2, api.ErrRange},
			{"0041;", 1, api.ErrValue}, {"0041;" + value + "\n0040..0042;" + value, 2, api.ErrTwice},
		}
	}
	return map[int][]wrong{
		1: {
			{"x", 1, api.ErrField}, {"#\n\n0041;A", 3, api.ErrField}, {"\n" + strings.Replace(row(0x41, 0), "0041", "41", 1), 2, api.ErrHex},
			{row(0x41, 0) + row(0x42, 255), 2, api.ErrValue}, {row(0x41, 0, 1, 2, 3), 1, api.ErrValue}, {row(0x41, 0) + row(0x41, 0), 2, api.ErrTwice}, {rangeRows(0x41, 0x41, 0), 1, api.ErrRange},
		},
		2: of("Full_Composition_Exclusion"), 3: of("Default_Ignorable_Code_Point"), 4: append(of("PVALID"), of("UNASSIGNED")...), 5: of("Latin"), 6: of("D"),
		7: {
			{"0430;0061", 1, api.ErrField}, {"\n430;0061;MA", 2, api.ErrHex}, {"0430;61;MA", 1, api.ErrHex}, {"0391 ; ; x", 1, api.ErrValue},
			{"#\n#\n0430;" + long + ";MA", 3, api.ErrLong}, {"0430;0061;MA\n0430;0062;MA", 2, api.ErrTwice},
		},
	}
}

func TestLoadWrongFileP7_1(t *testing.T) {
	for number, list := range wrongFiles() {
		for _, x := range list {
			for _, b := range []api.Bundle{{}, full()} {
				*files(&b)[number-1] = []byte(x.file)
				want := api.Where{File: number, Line: x.line, Err: x.err}
				if d, where := Load(b); d != nil || where != want {
					t.Errorf("%q: %v, not %v", x.file, where, want)
				}
			}
		}
	}
}

func TestLoadSeveralWrongP7_1(t *testing.T) {
	together := map[string]string{
		"Hangul": row(0xac00, 9), "round": row(0x41, 0, 0x41), "long": row(0x41, 0, 0x42, 0x42) + row(0x42, 0, 0x43, 0x43) + row(0x43, 0, 0x44, 0x44), "pair": row(0x41, 0, 0x61, 0x301) + row(0x42, 0, 0x61, 0x301),
	}
	wrong := wrongFiles()
	for first := 1; first <= 7; first++ {
		x := wrong[first][1]
		want := api.Where{File: first, Line: x.line, Err: x.err}
		for second := first + 1; second <= 7; second++ {
			b := full()
			*files(&b)[first-1] = []byte(x.file)
			*files(&b)[second-1] = []byte(wrong[second][0].file)
			if d, where := Load(b); d != nil || where != want {
				t.Errorf("%d and %d: %v, not %v", first, second, where, want)
			}
		}
		// A file that is wrong by itself is told ahead of what is wrong with the files together.
		for name, lines := range together {
			b := full()
			b.Unicode = []byte(lines)
			*files(&b)[first-1] = []byte(x.file)
			if d, where := Load(b); d != nil || where != want {
				t.Errorf("%d and %s: %v, not %v", first, name, where, want)
			}
		}
	}
	for name, lines := range together {
		b := full()
		b.Unicode = append([]byte(lines), row(0x10ffff, 0)+"x"...)
		line := bytes.Count(b.Unicode, []byte("\n")) + 1
		if d, where := Load(b); d != nil || where != (api.Where{File: 1, Line: line, Err: api.ErrField}) {
			t.Errorf("the first file, and %s: %v", name, where)
		}
	}
}

func TestHangulP7_1(t *testing.T) {
	for _, h := range [][2]int{{0x1100, 0x1112}, {0x1161, 0x1175}, {0x11a8, 0x11c2}, {0xac00, 0xd7a3}} {
		first, last := h[0], h[1]
		middle := (first + last) / 2
		for _, c := range []int{first, first + 1, middle, last - 1, last} {
			expect(t, "a row", rows(row(c, 0)), api.OK)
			expect(t, "a Ccc", rows(row(c, 1)), api.ErrValue)
			expect(t, "the greatest Ccc", rows(row(c, 254)), api.ErrValue)
			expect(t, "a Decomp of one", rows(row(c, 0, 0x41)), api.ErrValue)
			expect(t, "a Decomp of two", rows(row(c, 0, 0x1100, 0x1161)), api.ErrValue)
			expect(t, "a Decomp, excluded", excluding(rows(row(c, 0, 0x41)), c), api.ErrValue)
			expect(t, "both", rows(row(c, 9, 0x41, 0x42)), api.ErrValue)
			// What isn't canonical is no Decomp.
			expect(t, "a tag", rows(strings.Replace(row(c, 0, 0x41), "0041;;", "<compat> 0041;;", 1)), api.OK)
			// The row isn't the first one, nor the last one.
			expect(t, "among others", rows(row(0x41, 0), row(c, 9), row(0x10ffff, 0)), api.ErrValue)
		}
		for _, c := range []int{first - 1, last + 1} {
			expect(t, "next to it, a Ccc", rows(row(c, 9)), api.OK)
			expect(t, "next to it, a Decomp", rows(row(c, 0, 0x41, 0x42)), api.OK)
			expect(t, "next to it, both", rows(row(c, 9, first)), api.OK)
		}
		for _, x := range []struct {
			name        string
			first, last int
			want        api.Errno
		}{
			{"all of it", first, last, api.ErrValue}, {"within it", first + 1, last - 1, api.ErrValue}, {"more at both ends", first - 1, last + 1, api.ErrValue},
			{"up to its first", first - 5, first, api.ErrValue}, {"up to its midst", first - 5, middle, api.ErrValue}, {"up to its last", first - 1, last, api.ErrValue},
			{"from its first", first, last + 1, api.ErrValue}, {"from its midst", middle, last + 5, api.ErrValue}, {"from its last", last, last + 5, api.ErrValue},
			{"ahead of it", first - 5, first - 1, api.OK}, {"behind it", last + 1, last + 5, api.OK},
		} {
			expect(t, x.name, rows(rangeRows(x.first, x.last, 9)), x.want)
			expect(t, x.name+", of Ccc 0", rows(rangeRows(x.first, x.last, 0)), api.OK)
		}
	}
	expect(t, "all code points", rows(rangeRows(0, 0x10ffff, 9)), api.ErrValue)
	expect(t, "all code points of Ccc 0", rows(rangeRows(0, 0x10ffff, 0)), api.OK)
	for _, gap := range [][2]int{{0, 0x10ff}, {0x1113, 0x1160}, {0x1176, 0x11a7}, {0x11c3, 0xabff}, {0xd7a4, 0x10ffff}} {
		expect(t, "between", rows(rangeRows(gap[0], gap[1], 9)), api.OK)
	}
}

func TestRoundP7_1(t *testing.T) {
	for name, b := range map[string]api.Bundle{
		"one step":                  rows(row(0x41, 0, 0x41)),
		"one step, of two":          rows(row(0x41, 0, 0x41, 0x42)),
		"one step, as the second":   rows(row(0x41, 0, 0x42, 0x41)),
		"one step, twice":           rows(row(0x41, 0, 0x41, 0x41)),
		"one step, of Ccc 9":        rows(row(0x41, 9, 0x41)),
		"one step, excluded":        excluding(rows(row(0x41, 0, 0x41)), 0x41),
		"two steps":                 rows(row(0x41, 0, 0x42), row(0x42, 0, 0x41)),
		"two steps, of two":         rows(row(0x41, 0, 0x61, 0x42), row(0x42, 0, 0x41, 0x62)),
		"three steps":               rows(row(0x41, 0, 0x43), row(0x42, 0, 0x41), row(0x43, 0, 0x61, 0x42)),
		"by way of another":         rows(row(0x41, 0, 0x42), row(0x42, 0, 0x43), row(0x43, 0, 0x42)),
		"by way of one behind":      rows(row(0x42, 0, 0x43), row(0x43, 0, 0x42), row(0x44, 0, 0x42)),
		"by way, as the second":     rows(row(0x41, 0, 0x61, 0x42), row(0x42, 0, 0x42)),
		"beside what is right":      rows(row(0x41, 0, 0x61, 0x301), row(0x42, 0, 0x41), row(0x43, 0, 0x41, 0x44), row(0x44, 0, 0x43)),
		"the least and greatest":    rows(row(0, 0, 0x10ffff), row(0x10ffff, 0, 0)),
		"surrogates":                rows(row(0xd800, 0, 0xdfff), row(0xdfff, 0, 0xd800)),
		"with Hangul on the way":    rows(row(0x41, 0, 0xac00, 0x42), row(0x42, 0, 0x1100, 0x41)),
		"one part right, one not":   rows(row(0x41, 0, 0x42, 0x43), row(0x42, 0, 0x61), row(0x43, 0, 0x41)),
		"two rounds":                rows(row(0x41, 0, 0x41), row(0x42, 0, 0x42)),
		"rounds with one in common": rows(row(0x41, 0, 0x42, 0x43), row(0x42, 0, 0x41), row(0x43, 0, 0x41)),
	} {
		expect(t, name, b, api.ErrCycle)
	}
	for name, b := range map[string]api.Bundle{
		"a part twice":              rows(row(0x41, 0, 0x61, 0x61)),
		"a part by two ways":        rows(row(0x41, 0, 0x42, 0x43), row(0x42, 0, 0x44), row(0x43, 0, 0x44), row(0x44, 0, 0x61)),
		"a part and what has it":    rows(row(0x41, 0, 0x42, 0x43), row(0x42, 0, 0x43), row(0x43, 0, 0x61)),
		"of no row":                 rows(row(0x41, 0, 0x61), row(0x42, 0, 0x61)),
		"a tag that would go round": rows(strings.Replace(row(0x41, 0, 0x41), "0041;;", "<font> 0041;;", 1)),
		"a range":                   rows(row(0x41, 0, 0x3400), rangeRows(0x3400, 0x4dbf, 0)),
	} {
		expect(t, name, b, api.OK)
	}
}

func TestLongP7_1(t *testing.T) {
	two := row(0x41, 0, 0x61, 0x301)
	for _, x := range []struct {
		name string
		b    api.Bundle
		want api.Errno
	}{
		{"2", rows(two), api.OK},
		{"3 on the left", rows(two, row(0x42, 0, 0x41, 0x302)), api.OK},
		{"3 on the right", rows(two, row(0x42, 0, 0x62, 0x41)), api.OK},
		{"4, one by one", rows(two, row(0x42, 0, 0x41, 0x302), row(0x43, 0, 0x42, 0x303)), api.OK},
		{"4, of two and two", rows(two, row(0x42, 0, 0x41, 0x41)), api.OK},
		{"4, and another that is it", rows(two, row(0x42, 0, 0x41, 0x41), row(0x43, 0, 0x42), row(0x44, 0, 0x43)), api.OK},
		{"5, one by one", rows(two, row(0x42, 0, 0x41, 0x302), row(0x43, 0, 0x42, 0x303), row(0x44, 0, 0x43, 0x304)), api.ErrLong},
		{"5, falling", rows(row(0x41, 0, 0x42, 1), row(0x42, 0, 0x43, 2), row(0x43, 0, 0x44, 3), row(0x44, 0, 4, 5)), api.ErrLong},
		{"4, falling", rows(row(0x42, 0, 0x43, 2), row(0x43, 0, 0x44, 3), row(0x44, 0, 4, 5)), api.OK},
		{"5, of two and three", rows(two, row(0x42, 0, 0x41, 0x302), row(0x43, 0, 0x41, 0x42)), api.ErrLong},
		{"5, and another that is it", rows(row(0x40, 0, 0x44), two, row(0x42, 0, 0x41, 0x302), row(0x43, 0, 0x41, 0x42), row(0x44, 0, 0x43)), api.ErrLong},
		{"6", rows(two, row(0x42, 0, 0x41, 0x302), row(0x43, 0, 0x42, 0x42)), api.ErrLong},
		{"8", rows(two, row(0x42, 0, 0x41, 0x41), row(0x43, 0, 0x42, 0x42)), api.ErrLong},
		{"5, excluded", excluding(rows(two, row(0x42, 0, 0x41, 0x41), row(0x43, 0, 0x42, 0x61)), 0x41, 0x42, 0x43), api.ErrLong},
		{"5, of other Ccc", rows(row(0x41, 1, 0x61, 0x301), row(0x42, 2, 0x41, 0x41), row(0x43, 3, 0x42, 0x61)), api.ErrLong},
		{"5, not the last one", rows(two, row(0x42, 0, 0x41, 0x41), row(0x43, 0, 0x42, 0x61), row(0x44, 0, 0x61)), api.ErrLong},
		// A syllable counts as one, were it of three parts.
		{"2 syllables of three", rows(row(0x41, 0, 0xac01, 0xd7a3)), api.OK},
		{"4 syllables of three", rows(row(0x41, 0, 0xac01, 0xac01), row(0x42, 0, 0x41, 0x41)), api.OK},
		{"4 with a syllable", rows(row(0x41, 0, 0xac01, 0x61), row(0x42, 0, 0x41, 0x41)), api.OK},
		{"4 syllables and one more", rows(row(0x41, 0, 0xac01, 0xac01), row(0x42, 0, 0x41, 0x41), row(0x43, 0, 0x42, 0x61)), api.ErrLong},
		{"5 syllables", rows(row(0x41, 0, 0xac00, 0xac00), row(0x42, 0, 0x41, 0x41), row(0x43, 0, 0xac00, 0x42)), api.ErrLong},
		{"4 that are no syllables", rows(row(0x41, 0, 0x1100, 0x1161), row(0x42, 0, 0x41, 0x41)), api.OK},
		{"5 that are no syllables", rows(row(0x41, 0, 0x1100, 0x1161), row(0x42, 0, 0x41, 0x41), row(0x43, 0, 0x42, 0x11a8)), api.ErrLong},
		{"syllables with rows", rows(row(0x41, 0, 0xac01, 0xac01), row(0x42, 0, 0x41, 0x41), rangeRows(0xac00, 0xd7a3, 0)), api.OK},
	} {
		expect(t, x.name, x.b, x.want)
	}
}

func TestManyRowsP7_1(t *testing.T) {
	const first, count = 0x20000, 70000
	chain := func(next func(i int) []int) []byte {
		var file []byte
		for i := range count {
			file = append(file, row(first+i, 0, next(i)...)...)
		}
		return file
	}
	up := func(i int) []int { return []int{first + i + 1} }
	down := func(i int) []int { return []int{first + i - 1} }
	double := func(i int) []int { return []int{first + i + 1, first + i + 1} }
	round := func(i int) []int { return []int{first + (i+1)%count} }
	for name, x := range map[string]struct {
		file []byte
		want api.Errno
	}{
		"up": {chain(up), api.OK}, "down": {chain(down), api.OK}, "double": {chain(double), api.ErrLong}, "round": {chain(round), api.ErrCycle},
		"up to one that goes round":     {append(chain(up), row(first+count, 0, first+count)...), api.ErrCycle},
		"up to 4":                       {append(chain(up), row(first+count, 0, first+count+1, first+count+1)+row(first+count+1, 0, 1, 2)...), api.OK},
		"up to 5":                       {append(chain(up), row(first+count, 0, first+count+1, first+count+1)+row(first+count+1, 0, 1, first+count+2)+row(first+count+2, 0, 1, 2)...), api.ErrLong},
		"down from one that goes round": {append([]byte(row(first-1, 0, first-1)), chain(down)...), api.ErrCycle},
		"all of one part":               {chain(func(int) []int { return []int{0x61} }), api.OK},
		"all of two of one part":        {chain(func(i int) []int { return []int{0x61, i} }), api.OK},
	} {
		expect(t, name, api.Bundle{Unicode: x.file}, x.want)
	}
}

func TestPairTwiceP7_1(t *testing.T) {
	a, b := row(0x41, 0, 0x61, 0x301), row(0x42, 0, 0x61, 0x301)
	for _, x := range []struct {
		name string
		b    api.Bundle
		want api.Errno
	}{
		{"two", rows(a, b), api.ErrTwice},
		{"two, with others between and behind", rows(a, row(0x41+1, 0, 0x62, 0x301), row(0x50, 0, 0x61, 0x302), row(0x51, 0, 0x61, 0x301), row(0x52, 0)), api.ErrTwice},
		{"three", rows(a, b, row(0x43, 0, 0x61, 0x301)), api.ErrTwice},
		{"one twice", rows(row(0x41, 0, 0x61, 0x61), row(0x42, 0, 0x61, 0x61)), api.ErrTwice},
		{"of Hangul", rows(row(0x41, 0, 0x1100, 0x1161), row(0x42, 0, 0x1100, 0x1161)), api.ErrTwice},
		{"the least and greatest", rows(row(1, 0, 0, 0x10ffff), row(0x10fffe, 0, 0, 0x10ffff)), api.ErrTwice},
		{"the first one excluded", excluding(rows(a, b), 0x41), api.OK},
		{"the second one excluded", excluding(rows(a, b), 0x42), api.OK},
		{"both excluded", excluding(rows(a, b), 0x41, 0x42), api.OK},
		{"the parts excluded", excluding(rows(a, b), 0x61, 0x301), api.ErrTwice},
		{"two of three, one excluded", excluding(rows(a, b, row(0x43, 0, 0x61, 0x301)), 0x42), api.ErrTwice},
		{"the first one of another Ccc", rows(row(0x41, 1, 0x61, 0x301), b), api.OK},
		{"the second one of another Ccc", rows(a, row(0x42, 254, 0x61, 0x301)), api.OK},
		{"the first part of another Ccc", rows(a, b, row(0x61, 9)), api.OK},
		{"the first part of another Ccc, ahead", rows(row(0x31, 9), row(0x41, 0, 0x31, 0x301), row(0x42, 0, 0x31, 0x301)), api.OK},
		{"the first part of Ccc 0", rows(a, b, row(0x61, 0)), api.ErrTwice},
		{"the second part of another Ccc", rows(a, b, row(0x301, 230)), api.ErrTwice},
		{"other parts", rows(a, row(0x42, 0, 0x61, 0x302), row(0x43, 0, 0x62, 0x301)), api.OK},
		{"turned round", rows(a, row(0x42, 0, 0x301, 0x61)), api.OK},
		{"one part alone", rows(row(0x41, 0, 0x61), row(0x42, 0, 0x61)), api.OK},
		{"one with the part alone", rows(a, row(0x42, 0, 0x61), row(0x43, 0, 0x41)), api.OK},
	} {
		expect(t, x.name, x.b, x.want)
	}
}

func TestWhichIsToldP7_1(t *testing.T) {
	kinds := []struct {
		want api.Errno
		at   func(c int) string
	}{
		{api.ErrValue, func(int) string { return row(0xac00, 9) }},
		{api.ErrCycle, func(c int) string { return row(c, 0, c) }},
		{api.ErrLong, func(c int) string {
			return row(c, 0, c+1, c+1) + row(c+1, 0, c+2, c+2) + row(c+2, 0, 0x301, 0x302)
		}},
		{api.ErrTwice, func(c int) string { return row(c, 0, 0x303, 0x304) + row(c+1, 0, 0x303, 0x304) }},
	}
	// Some of the four, in either order, ahead of the Hangul row or behind it: what is told doesn't hang on the order of rows.
	for set := 1; set < 1<<len(kinds); set++ {
		for _, start := range []int{0x400, 0xe000} {
			for _, step := range []int{0x10, -0x10} {
				var lines []string
				for i, kind := range kinds {
					if set>>i&1 != 0 {
						lines = append(lines, kind.at(start+0x100+i*step))
					}
				}
				slices.Sort(lines)
				want := kinds[bits.TrailingZeros(uint(set))].want
				expect(t, fmt.Sprintf("%04b from %x by %x", set, start, step), rows(lines...), want)
			}
		}
	}
}

// model is a bundle of few rows, and what the chapter's words say of it.
type model struct {
	decomps  map[int][]int
	ccc      map[int]int
	excluded map[int]bool
}

// bundle is the model as files.
func (m model) bundle() api.Bundle {
	var b api.Bundle
	for c := range 0x80 {
		_, has := m.decomps[c]
		if has || m.ccc[c] != 0 {
			b.Unicode = append(b.Unicode, row(c, m.ccc[c], m.decomps[c]...)...)
		}
		if m.excluded[c] {
			b = excluding(b, c)
		}
	}
	return b
}

// comesTo tells whether one comes from a code point to another within so many steps.
func (m model) comesTo(from, to, steps int) bool {
	for _, part := range m.decomps[from] {
		if part == to || steps > 1 && m.comesTo(part, to, steps-1) {
			return true
		}
	}
	return false
}

// full is a full decomposition, of decompositions that don't go round.
func (m model) full(c int) []int {
	if len(m.decomps[c]) == 0 {
		return []int{c}
	}
	var all []int
	for _, part := range m.decomps[c] {
		all = append(all, m.full(part)...)
	}
	return all
}

// makes are all code points that a pair makes.
func (m model) makes(a, b int) []int {
	var all []int
	for c := range 0x80 {
		if slices.Equal(m.decomps[c], []int{a, b}) && !m.excluded[c] && m.ccc[c] == 0 && m.ccc[a] == 0 {
			all = append(all, c)
		}
	}
	return all
}

// wrong is what is wrong with the model.
func (m model) wrong() api.Errno {
	for c := range m.decomps {
		if m.comesTo(c, c, len(m.decomps)) {
			return api.ErrCycle
		}
	}
	for c := range m.decomps {
		if len(m.full(c)) > 4 {
			return api.ErrLong
		}
	}
	for _, d := range m.decomps {
		if len(d) == 2 && len(m.makes(d[0], d[1])) > 1 {
			return api.ErrTwice
		}
	}
	return api.OK
}

// everyDecomp hands out all ways in which some code points may decompose into some parts, none, one or two.
func everyDecomp(points, parts []int, try func(map[int][]int)) {
	choices := [][]int{nil}
	for _, a := range parts {
		choices = append(choices, []int{a})
		for _, b := range parts {
			choices = append(choices, []int{a, b})
		}
	}
	decomps := map[int][]int{}
	var grow func(i int)
	grow = func(i int) {
		if i == len(points) {
			try(decomps)
			return
		}
		for _, choice := range choices {
			decomps[points[i]] = choice
			grow(i + 1)
		}
	}
	grow(0)
}

// compare holds Load and Makes against the model.
func compare(t *testing.T, m model, parts []int) api.Errno {
	t.Helper()
	b := m.bundle()
	want := m.wrong()
	d, where := Load(b)
	if where.Err != want || (d == nil) != (want != api.OK) {
		t.Fatalf("%s%s: %v, not %v", b.Unicode, b.Excluded, where, want)
	}
	if d == nil {
		return want
	}
	for _, x := range parts {
		for _, y := range parts {
			got, ok := d.Makes(x, y)
			made := append(m.makes(x, y), 0)
			if got != made[0] || ok != (len(made) > 1) {
				t.Fatalf("%s%s: Makes of %x, %x: %x, %v", b.Unicode, b.Excluded, x, y, got, ok)
			}
		}
	}
	return want
}

func TestAllSmallBundlesP7_1(t *testing.T) {
	seen := map[api.Errno]int{}
	points, parts := []int{0x41, 0x43, 0x45}, []int{0x41, 0x43, 0x45, 0x44}
	everyDecomp(points, parts, func(decomps map[int][]int) {
		seen[compare(t, model{decomps: decomps}, parts)]++
	})
	// Fewer decompositions, with each Ccc and each exclusion.
	points, parts = []int{0x41, 0x43}, []int{0x41, 0x43, 0x44}
	everyDecomp(points, parts, func(decomps map[int][]int) {
		for set := range 1 << 6 {
			m := model{decomps, map[int]int{}, map[int]bool{}}
			for i, c := range parts {
				m.ccc[c] = set >> i & 1
				m.excluded[c] = set>>(3+i)&1 != 0
			}
			seen[compare(t, m, parts)]++
		}
	})
	for _, e := range []api.Errno{api.OK, api.ErrCycle, api.ErrLong, api.ErrTwice} {
		if seen[e] < 10 {
			t.Errorf("%v: %d bundles", e, seen[e])
		}
	}
}

// strange are numbers that are no code points.
var strange = []int{-1, -0x61, 0x110000, 0x110061, 1<<32 + 0x61, 1<<62 + 0x61, math.MaxInt, math.MinInt, math.MinInt + 0x61}

func TestTablesP7_2(t *testing.T) {
	d := must(t, full())
	u := d.Unicode()
	if u.Len() != 4 || u.Gc(0x41) != "Lo" || u.Ccc(0x30a) != 230 || u.Bidi(0xc5) != "L" || !slices.Equal(u.Decomp(0xc5), []int{0x41, 0x30a}) || u.Ccc(0x42) != 0 {
		t.Error("Unicode")
	}
	if p, ok := d.Confus().Proto(0x6d); d.Confus().Len() != 2 || !ok || !slices.Equal(p, []int{0x72, 0x6e}) {
		t.Errorf("Confus: %x", p)
	}
	if d.Unicode() != u || d.Confus() != d.Confus() {
		t.Error("the tables are others each time")
	}
}

func TestPropertiesP7_2(t *testing.T) {
	d := must(t, full())
	values := map[string]struct {
		of   func(int) string
		want map[int]string
		none string
	}{
		"Status": {d.Status, map[int]string{
			0x60: "UNASSIGNED", 0x61: "PVALID", 0x6d: "PVALID", 0x7a: "PVALID", 0x7b: "UNASSIGNED", 0x200b: "UNASSIGNED", 0x200c: "CONTEXTJ", 0x200d: "CONTEXTJ", 0x200e: "UNASSIGNED",
			0xb7: "CONTEXTO", 0x40: "UNASSIGNED", 0x41: "DISALLOWED", 0x5a: "DISALLOWED", 0x378: "UNASSIGNED", 0x20: "UNASSIGNED", 0x21: "UNASSIGNED", 0x22: "UNASSIGNED",
		}, "UNASSIGNED"},
		"Script":  {d.Script, map[int]string{0x40: "", 0x41: "Latin", 0x5a: "Latin", 0x5b: "", 0x61: "Latin", 0x430: "Cyrillic", 0x431: "", 0xad: "anything at all", 0x628: ""}, ""},
		"Joining": {d.Joining, map[int]string{0x626: "", 0x627: "R", 0x628: "D", 0x629: "", 0x200d: "C", 0x41: ""}, ""},
	}
	for name, x := range values {
		for c, want := range x.want {
			if got := x.of(c); got != want {
				t.Errorf("%s of %x: %q", name, c, got)
			}
		}
		for _, c := range append([]int{0, 0x10ffff}, strange...) {
			if got := x.of(c); got != x.none {
				t.Errorf("%s of %x: %q", name, c, got)
			}
		}
	}
	bools := map[string]struct {
		of  func(int) bool
		yes []int
		no  []int
	}{
		"Excluded": {d.Excluded, []int{0x340, 0x341, 0x212b}, []int{0x33f, 0x342, 0x212a, 0x212c, 0xc5, 0x41, 0xad, 0}},
		"Ignored":  {d.Ignored, []int{0xad, 0x200b, 0x200d, 0x200f}, []int{0xac, 0xae, 0x200a, 0x2010, 0x41, 0x42, 0x212b, 0}},
	}
	for name, x := range bools {
		for _, c := range x.yes {
			if !x.of(c) {
				t.Errorf("%s of %x", name, c)
			}
		}
		for _, c := range append(x.no, strange...) {
			if x.of(c) {
				t.Errorf("not %s of %x", name, c)
			}
		}
	}
}

func TestOnlyTheirValuesP7_2(t *testing.T) {
	// Of the first three a code point may be told again with another value; of scripts and joining types it may not.
	all := []string{"Full_Composition_Exclusion", "Default_Ignorable_Code_Point", "PVALID", "CONTEXTJ", "CONTEXTO", "DISALLOWED", "UNASSIGNED", "Latin", "pvalid"}
	takes := [][]string{nil, all[:1], all[1:2], all[2:7], all, all}
	for number := 2; number <= 6; number++ {
		for _, a := range all {
			for _, b := range all {
				var bundle api.Bundle
				*files(&bundle)[number-1] = []byte("0061..0063 ; " + a + "\n0062 ; " + b + "\n")
				took := takes[number-1]
				takesA, takesB := slices.Contains(took, a), slices.Contains(took, b)
				d, where := Load(bundle)
				if takesA && takesB {
					if d != nil || where != (api.Where{File: number, Line: 2, Err: api.ErrTwice}) {
						t.Errorf("file %d: %s, %s: %v", number, a, b, where)
					}
					continue
				}
				if d == nil || where != (api.Where{}) {
					t.Errorf("file %d: %s, %s: %v", number, a, b, where)
					continue
				}
				value := ""
				switch {
				case takesA:
					value = a
				case takesB:
					value = b
				}
				holdOne(t, d, number, value)
			}
		}
	}
}

// holdOne holds what data say of the code point 62 against the value that one file gives it.
func holdOne(t *testing.T, d *Data, number int, value string) {
	t.Helper()
	status, script, join := "UNASSIGNED", "", ""
	switch {
	case number == 4 && value != "":
		status = value
	case number == 5:
		script = value
	case number == 6:
		join = value
	}
	if d.Excluded(0x62) != (number == 2 && value != "") || d.Ignored(0x62) != (number == 3 && value != "") || d.Status(0x62) != status || d.Script(0x62) != script || d.Joining(0x62) != join {
		t.Errorf("file %d: %q: %v, %v, %q, %q, %q", number, value, d.Excluded(0x62), d.Ignored(0x62), d.Status(0x62), d.Script(0x62), d.Joining(0x62))
	}
}

func TestProtoP7_2(t *testing.T) {
	d := must(t, full())
	for c, want := range map[int][]int{0x430: {0x61}, 0x6d: {0x72, 0x6e}} {
		if got, ok := d.Proto(c); !ok || !slices.Equal(got, want) {
			t.Errorf("%x: %x, %v", c, got, ok)
		}
	}
	for _, c := range append([]int{0, 0x61, 0x72, 0x431, 0x10ffff}, strange...) {
		if got, ok := d.Proto(c); ok || len(got) != 0 {
			t.Errorf("%x: %x, %v", c, got, ok)
		}
	}
}

func TestMakesP7_2(t *testing.T) {
	// The chapter's example.
	d := must(t, rows(row(0xc5, 0, 0x41, 0x30a), row(0x30a, 230)))
	if c, ok := d.Makes(0x41, 0x30a); !ok || c != 0xc5 {
		t.Errorf("the example: %x, %v", c, ok)
	}
	d = must(t, excluding(rows(
		row(0, 0, 0x62, 0x301), row(0xc5, 0, 0x41, 0x30a), row(0xc6, 0, 0x30b, 0x41), row(0xc7, 0, 0x41), row(0xc8, 9, 0x43, 0x30a), row(0xc9, 0, 0x44, 0x30a), row(0xca, 0, 0x45, 0x30a),
		row(0xcb, 0, 0x46, 0x46), row(0xcc, 0, 0x1100, 0x1161), row(0xcd, 0, 0xac00, 0x11a8), row(0xce, 0, 0xc5, 0x301), row(0xcf, 0, 0x42, 0x30a), row(0xd0, 1, 0x42, 0x30a), row(0xd1, 0, 0x42, 0x30a),
		row(0x30a, 230), row(0x30b, 230), row(0x10ffff, 0, 0x10fffe, 0x47)), 0xc9, 0xcf))
	for p, want := range map[[2]int]int{
		{0x62, 0x301}: 0, {0x41, 0x30a}: 0xc5, {0x45, 0x30a}: 0xca, {0x46, 0x46}: 0xcb, {0x1100, 0x1161}: 0xcc, {0xac00, 0x11a8}: 0xcd, {0xc5, 0x301}: 0xce, {0x42, 0x30a}: 0xd1, {0x10fffe, 0x47}: 0x10ffff,
	} {
		if c, ok := d.Makes(p[0], p[1]); !ok || c != want {
			t.Errorf("%x: %x, %v", p, c, ok)
		}
		if p[0] == p[1] {
			continue
		}
		if c, ok := d.Makes(p[1], p[0]); ok || c != 0 {
			t.Errorf("%x, turned round: %x, %v", p, c, ok)
		}
	}
	for _, p := range [][2]int{
		// a first part of another Ccc, a decomposition of one, a code point of another Ccc, one that is excluded, and parts that no pair has
		{0x30b, 0x41}, {0x41, 0}, {0x43, 0x30a}, {0x44, 0x30a}, {0, 0}, {0x41, 0x41}, {0x30a, 0x30a}, {0x41, 0x301}, {0xc5, 0x30a}, {0x1100, 0x1162},
	} {
		if c, ok := d.Makes(p[0], p[1]); ok || c != 0 {
			t.Errorf("%x: %x, %v", p, c, ok)
		}
	}
	for _, x := range strange {
		for _, y := range append([]int{0, 0x41, 0x30a}, strange...) {
			if c, ok := d.Makes(x, y); ok || c != 0 {
				t.Errorf("%x, %x: %x, %v", x, y, c, ok)
			}
			if c, ok := d.Makes(y, x); ok || c != 0 {
				t.Errorf("%x, %x: %x, %v", y, x, c, ok)
			}
		}
	}
}

// from are so many numbers from one on.
func from(first, count int) []int {
	var all []int
	for i := range count {
		all = append(all, first+i)
	}
	return all
}

func TestPointsP7_3(t *testing.T) {
	for _, x := range []struct {
		name, idna string
		want       []int
	}{
		{"none", "", nil},
		{"none that may be in labels", "0041..005A;DISALLOWED\n0378;UNASSIGNED\n0061;x\n0062;pvalid\n0063;CONTEXT", nil},
		{"each value", "0061;PVALID\n0062;CONTEXTJ\n0063;CONTEXTO\n0064;DISALLOWED\n0065;UNASSIGNED\n0066;y", []int{0x61, 0x62, 0x63}},
		{"one among the other", "0061..0063;PVALID\n0064;DISALLOWED\n0065..0066;CONTEXTO\n0067;CONTEXTJ\n0068;PVALID\n0069;UNASSIGNED\n006A;CONTEXTO", []int{0x61, 0x62, 0x63, 0x65, 0x66, 0x67, 0x68, 0x6a}},
		{"not in order", "200C;CONTEXTJ\n0063;PVALID\n00B7;CONTEXTO\n0064;DISALLOWED\n0061..0062;PVALID\n0000;CONTEXTO", []int{0, 0x61, 0x62, 0x63, 0xb7, 0x200c}},
		{"surrogates within", "D7FE..E001;PVALID", []int{0xd7fe, 0xd7ff, 0xe000, 0xe001}},
		{"surrogates at the beginning", "DFFF..E001;CONTEXTO", []int{0xe000, 0xe001}},
		{"surrogates at the end", "D7FE..D800;CONTEXTJ\nE000;PVALID", []int{0xd7fe, 0xd7ff, 0xe000}},
		{"surrogates alone", "D800..DFFF;PVALID\n0061;DISALLOWED", nil},
		{"the least and the greatest", "10FFFF;PVALID\n0000;PVALID", []int{0, 0x10ffff}},
		{"4095", "0400..13FE;PVALID", from(0x400, 4095)},
		{"4096", "0400..13FF;PVALID", from(0x400, 4096)},
		{"4097", "0400..1400;PVALID", from(0x400, 4096)},
		{"4096, and others behind", "0400..13FF;PVALID\n1400..1401;PVALID\n1402;CONTEXTO\n1403;DISALLOWED", from(0x400, 4096)},
		{"4095, and others behind", "0400..13FE;PVALID\n1400;DISALLOWED\n1500..1501;CONTEXTO\n1502;CONTEXTJ", append(from(0x400, 4095), 0x1500)},
		{"all", "0000..10FFFF;PVALID", from(0, 4096)},
		{"each value many times", "0000..07FF;PVALID\n0800..0FFE;CONTEXTJ\n1000..17FF;CONTEXTO", append(from(0, 4095), 0x1000)},
		{"the lower ones, of lines behind", "3000..4FFF;PVALID\n0061..0062;CONTEXTO", append([]int{0x61, 0x62}, from(0x3000, 4094)...)},
		// Surrogates don't count among the 4096, were they between those.
		{"4096 with surrogates within", "CC00..EFFF;PVALID", append(from(0xcc00, 0xc00), from(0xe000, 0x400)...)},
		{"surrogates and 4096 behind them", "D800..F000;CONTEXTO", from(0xe000, 4096)},
		{"surrogates right behind 4096", "C800..DFFF;PVALID\nE000;PVALID", from(0xc800, 4096)},
	} {
		d := must(t, api.Bundle{Idna: []byte(x.idna)})
		if got := d.Points(); !slices.Equal(got, x.want) {
			t.Errorf("%s: %d: %x", x.name, len(got), got[:min(8, len(got))])
		}
	}
}

func TestPointsAreThoseOfStatusP7_3(t *testing.T) {
	d := must(t, full())
	var want []int
	for c := range 0x110000 {
		status := d.Status(c)
		if (status == "PVALID" || status == "CONTEXTJ" || status == "CONTEXTO") && (c < 0xd800 || c > 0xdfff) {
			want = append(want, c)
		}
	}
	if got := d.Points(); !slices.Equal(got, want) || len(got) != 29 {
		t.Errorf("%x", got)
	}
}

// said is all that data say of some code points, as a text.
func said(d *Data) string {
	var b strings.Builder
	for r := range d.Unicode().Rows() {
		fmt.Fprintln(&b, r)
	}
	for source, proto := range d.Confus().All() {
		fmt.Fprintln(&b, source, proto)
	}
	for c := range 0x3000 {
		proto, has := d.Proto(c)
		made, ok := d.Makes(c, 0x30a)
		fmt.Fprintln(&b, c, d.Excluded(c), d.Ignored(c), d.Status(c), d.Script(c), d.Joining(c), proto, has, made, ok)
	}
	fmt.Fprintln(&b, d.Points())
	return b.String()
}

func TestNewMemoryP7_4(t *testing.T) {
	d := must(t, full())
	was := said(d)
	spoil := func(list []int) {
		for i := range list[:cap(list)] {
			list[:cap(list)][i] = -1
		}
		_ = append(list, -2)
	}
	for range 2 {
		one, two := d.Points(), d.Points()
		spoil(one)
		if slices.Contains(two, -1) || said(d) != was {
			t.Error("Points")
		}
		first, _ := d.Proto(0x6d)
		second, _ := d.Proto(0x6d)
		spoil(first)
		if !slices.Equal(second, []int{0x72, 0x6e}) || said(d) != was {
			t.Error("Proto")
		}
		spoil(d.Unicode().Decomp(0xc5))
		for r := range d.Unicode().Rows() {
			spoil(r.Decomp)
		}
		for _, proto := range d.Confus().All() {
			spoil(proto)
		}
		if said(d) != was {
			t.Error("the tables' answers")
		}
	}
}

func TestHandedInP7_4(t *testing.T) {
	was := said(must(t, full()))
	b := full()
	var before [][]byte
	for _, f := range files(&b) {
		// With spare room behind, which is no part of what is handed in.
		*f = append(make([]byte, 0, 1024), *f...)
		before = append(before, bytes.Clone((*f)[:cap(*f)]))
	}
	d := must(t, b)
	for i, f := range files(&b) {
		if !bytes.Equal((*f)[:cap(*f)], before[i]) {
			t.Errorf("file %d has changed", i+1)
		}
	}
	for _, f := range files(&b) {
		for i := range (*f)[:cap(*f)] {
			(*f)[:cap(*f)][i] = '7'
		}
	}
	if said(d) != was {
		t.Error("the data follow a change")
	}

	// Two loads of one bundle have nothing to do with each other; a wrong one is left as it is, too.
	one, other := must(t, full()), must(t, full())
	for _, p := range [][]int{one.Points(), other.Points()} {
		p[0] = -1
	}
	if said(one) != was || said(other) != was {
		t.Error("two loads share memory")
	}
	wrong := full()
	wrong.Confus = []byte("0430;;")
	text := string(wrong.Unicode) + string(wrong.Idna)
	if _, where := Load(wrong); where.File != 7 || string(wrong.Unicode)+string(wrong.Idna) != text || string(wrong.Confus) != "0430;;" {
		t.Errorf("%v", where)
	}
}

func TestNilDataP7_2(t *testing.T) {
	// What no maker answered is as if it had no rows: no call panics.
	for _, d := range []*Data{nil, {}} {
		if d.Unicode().Len() != 0 || d.Confus().Len() != 0 || len(d.Points()) != 0 {
			t.Error("not empty")
		}
		for _, c := range append([]int{0, 0x61}, strange...) {
			proto, has := d.Proto(c)
			made, ok := d.Makes(c, c)
			if d.Excluded(c) || d.Ignored(c) || d.Status(c) != "UNASSIGNED" || d.Script(c) != "" || d.Joining(c) != "" || len(proto) != 0 || has || made != 0 || ok {
				t.Errorf("%x", c)
			}
		}
	}
}

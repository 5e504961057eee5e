package confus

import (
	"bytes"
	"fmt"
	"math"
	"slices"
	"strings"
	"testing"

	"paronym/api"
	"paronym/field"
)

// pair is a source with its prototype.
type pair struct {
	source int
	proto  []int
}

func pr(source int, proto ...int) pair {
	return pair{source, proto}
}

// gather goes through all sources.
func gather(table *Table) []pair {
	var all []pair
	for source, proto := range table.All() {
		all = append(all, pair{source, proto})
	}
	return all
}

// samePairs tells whether sources and prototypes are alike, in order.
func samePairs(a, b []pair) bool {
	return slices.EqualFunc(a, b, func(x, y pair) bool {
		return x.source == y.source && slices.Equal(x.proto, y.proto)
	})
}

// must parses a file that is right.
func must(t *testing.T, file string) *Table {
	t.Helper()
	table, e, at := Parse([]byte(file))
	if e != api.OK || at != 0 || table == nil {
		t.Fatalf("%q: %v at %d", file, e, at)
	}
	return table
}

// texts are so many code points' texts, parted by a blank each, and the code points.
func texts(count int) (string, []int) {
	var points []int
	var parts []string
	for i := range count {
		points = append(points, 0x600+i)
		parts = append(parts, fmt.Sprintf("%04X", 0x600+i))
	}
	return strings.Join(parts, " "), points
}

func TestParseP6_1(t *testing.T) {
	seventeen, points17 := texts(17)
	eighteen, points18 := texts(18)
	for _, x := range []struct {
		file string
		want []pair
	}{
		// the chapter's example
		{"0430 ; 0061 ; MA # small a", []pair{pr(0x430, 0x61)}},
		// no line, remarks alone
		{"", nil}, {"\n", nil}, {"\n\n\r\n", nil}, {"# 0430 ; 0061 ; MA", nil}, {"#\n \t\n#;;\r\n\t#0430;0061;MA\n", nil},
		// blanks, tabs, remarks, ends of lines
		{"0430;0061;MA", []pair{pr(0x430, 0x61)}}, {"0430;0061;MA\n", []pair{pr(0x430, 0x61)}}, {"\n\n0430;0061;MA\r\n\n", []pair{pr(0x430, 0x61)}},
		{"0430 ;\t0061 ;\tMA\t# a\n", []pair{pr(0x430, 0x61)}}, {"\t 0430\t ; \t0061 0062\t ;\t#;\r", []pair{pr(0x430, 0x61, 0x62)}},
		// a third field that is empty, and ones that are anything
		{"0430;0061;", []pair{pr(0x430, 0x61)}}, {"0430 ; 0061 ; \t", []pair{pr(0x430, 0x61)}}, {"0430;0061;#MA", []pair{pr(0x430, 0x61)}},
		{"0430;0061;0430", []pair{pr(0x430, 0x61)}}, {"0430;0061;ma SL\xff\x00\u00e9", []pair{pr(0x430, 0x61)}}, {"0430;0061;MA\n0431;0061;SL", []pair{pr(0x430, 0x61), pr(0x431, 0x61)}},
		// prototypes of one code point, two, 17 and 18, of one that comes again and again, of the source itself
		{"006D ; 0072 006E ; MA", []pair{pr(0x6d, 0x72, 0x6e)}}, {"0430;" + seventeen + ";", []pair{{0x430, points17}}}, {"0430;" + eighteen + ";MA", []pair{{0x430, points18}}},
		{"0430;0061 0061 0061;", []pair{pr(0x430, 0x61, 0x61, 0x61)}}, {"0430;0430;MA", []pair{pr(0x430, 0x430)}}, {"0430;0431;\n0431;0430;", []pair{pr(0x430, 0x431), pr(0x431, 0x430)}},
		// lines that don't come in the order of their sources
		{"0430;0061;\n0031;006C;\n006D;0072 006E;", []pair{pr(0x31, 0x6c), pr(0x6d, 0x72, 0x6e), pr(0x430, 0x61)}},
		{"10000;0062;\nFFFF;0063;\n0030;0061;", []pair{pr(0x30, 0x61), pr(0xffff, 0x63), pr(0x10000, 0x62)}},
		// the least and the greatest code points, and those that are no scalars
		{"10FFFF;0000;\n0000;10FFFF;", []pair{pr(0, 0x10ffff), pr(0x10ffff, 0)}}, {"D800;DFFF D800;\nDFFF;FFFFF 100000;", []pair{pr(0xd800, 0xdfff, 0xd800), pr(0xdfff, 0xfffff, 0x100000)}},
	} {
		table, e, at := Parse([]byte(x.file))
		if e != api.OK || at != 0 || table == nil {
			t.Errorf("%q: %v at %d", x.file, e, at)
			continue
		}
		if got := gather(table); !samePairs(got, x.want) || table.Len() != len(x.want) {
			t.Errorf("%q: %x", x.file, got)
		}
	}
	for _, b := range [][]byte{nil, {}} {
		if table, e, at := Parse(b); table == nil || table.Len() != 0 || e != api.OK || at != 0 {
			t.Errorf("nothing: %v at %d", e, at)
		}
	}
}

func TestParseWrongP6_1(t *testing.T) {
	nineteen, _ := texts(19)
	many, _ := texts(1000)
	for _, x := range []struct {
		file string
		e    api.Errno
		at   int
	}{
		// one field, two, four and more
		{"0430", api.ErrField, 1}, {"0430 0061 MA", api.ErrField, 1}, {"0430 ; 0061", api.ErrField, 1}, {"0430;0061#;MA", api.ErrField, 1}, {";", api.ErrField, 1},
		{"0430;0061;MA;", api.ErrField, 1}, {"0430 ; 0061 ; MA ; x", api.ErrField, 1}, {";;;", api.ErrField, 1}, {"0430;0061;MA;;;", api.ErrField, 1}, {"\n#\n0430;0061", api.ErrField, 3},
		// what isn't a remark is a field, were it a mark of the file's order of octets
		{"\xef\xbb\xbf# confusables.txt\n0430;0061;MA", api.ErrField, 1}, {"\r \n", api.ErrField, 1},
		// a source that is no code point's text: empty, a range's, a sequence's, and others
		{";0061;MA", api.ErrHex, 1}, {" \t;0061;MA", api.ErrHex, 1}, {"0430..0431;0061;MA", api.ErrHex, 1}, {"0430..0430;0061;MA", api.ErrHex, 1}, {"0430 0431;0061;MA", api.ErrHex, 1},
		{"430;0061;MA", api.ErrHex, 1}, {"00430;0061;MA", api.ErrHex, 1}, {"043a;0061;MA", api.ErrHex, 1}, {"110000;0061;MA", api.ErrHex, 1}, {"U+0430;0061;MA", api.ErrHex, 1}, {"\xef\xbb\xbf0430;0061;MA", api.ErrHex, 1}, {"\n\n-430;0061;MA\n", api.ErrHex, 3},
		// a prototype that is no sequence's text: two blanks, a tab, a range's, and others, wherever they stand
		{"0430;0061  0062;MA", api.ErrHex, 1}, {"0430;0061\t0062;MA", api.ErrHex, 1}, {"0430;0061..0062;MA", api.ErrHex, 1}, {"0430;61;MA", api.ErrHex, 1}, {"0430;0061 62;MA", api.ErrHex, 1}, {"0430;61 0062;MA", api.ErrHex, 1},
		{"0430;006a;MA", api.ErrHex, 1}, {"0430;0061,0062;MA", api.ErrHex, 1}, {"0430;MA;0061", api.ErrHex, 1}, {"0430;0061 110000;", api.ErrHex, 1}, {"#\n0430;a;MA", api.ErrHex, 2},
		// an empty prototype
		{"0430;;MA", api.ErrValue, 1}, {"0430 ; ; MA", api.ErrValue, 1}, {"0430;\t ;", api.ErrValue, 1}, {"\r\n0430;;0061", api.ErrValue, 2},
		// one of 19 code points, and of many
		{"0430;" + nineteen + ";MA", api.ErrLong, 1}, {"0430;" + many + ";", api.ErrLong, 1}, {"0061;0062;\n\n0430;" + nineteen + ";MA\n", api.ErrLong, 3},
		// a source twice, with the same prototype and with another, one right behind the other and not
		{"0430;0061;MA\n0430;0061;MA", api.ErrTwice, 2}, {"0430;0061;MA\n0430;0062;MA", api.ErrTwice, 2}, {"0430;0061;MA\n0430;0061 0062;", api.ErrTwice, 2}, {"0430;0061;\n#\n\n0430;0061;\n", api.ErrTwice, 4},
		{"0430;0061;\n0031;0061;\n0500;0061;\n0430;0061;", api.ErrTwice, 4}, {"0030;0061;\n0031;0061;\n0031;0061;\n0030;0061;", api.ErrTwice, 3}, {"0000;0061;\n0000;0061;", api.ErrTwice, 2}, {"10FFFF;0061;\n10FFFF;0061;", api.ErrTwice, 2},
		// several in one line: fields, the source, the prototype, its emptiness, its length, then twice
		{"430;a", api.ErrField, 1}, {"430;;;", api.ErrField, 1}, {";;", api.ErrHex, 1}, {"430;;MA", api.ErrHex, 1}, {"430;" + nineteen + ";", api.ErrHex, 1}, {"0430;" + nineteen + " 61;", api.ErrHex, 1}, {"0430;" + nineteen + "  0061;", api.ErrHex, 1},
		{"0430;0061;\n0430;0061", api.ErrField, 2}, {"0430;0061;\n0430;0061;;", api.ErrField, 2}, {"0430;0061;\n0430;61;", api.ErrHex, 2}, {"0430;0061;\n0430;;", api.ErrValue, 2}, {"0430;0061;\n0430;" + nineteen + ";", api.ErrLong, 2},
		// several lines: the first one that is wrong
		{"0430;0061;\n0430;0061;\n0431", api.ErrTwice, 2}, {"0430;0061;\n0431\n0430;0061;", api.ErrField, 2}, {"0430;;\n430;0061;", api.ErrValue, 1}, {"430;0061;\n0430;;", api.ErrHex, 1}, {"0430;" + nineteen + ";\n0431;;\n;", api.ErrLong, 1},
		{"0430;;\n0431;" + nineteen + ";", api.ErrValue, 1}, {"0430;0061;\n0430;0061;\n0430;0061;", api.ErrTwice, 2}, {"0430;a;\n0430", api.ErrHex, 1},
	} {
		if table, e, at := Parse([]byte(x.file)); table != nil || e != x.e || at != x.at {
			t.Errorf("%q: %v at %d, not %v at %d", x.file, e, at, x.e, x.at)
		}
	}
}

// slowParse is Parse by the chapter's words, which looks through all lines ahead for a source; lines and texts are layer 2's.
func slowParse(file []byte) ([]pair, api.Errno, int) {
	var all []pair
	for line := range field.Lines(file) {
		f := line.Fields
		if len(f) != 3 {
			return nil, api.ErrField, line.Number
		}
		source, e := field.Point(f[0])
		if e != api.OK {
			return nil, api.ErrHex, line.Number
		}
		proto, e := field.Sequence(f[1])
		if e != api.OK {
			return nil, api.ErrHex, line.Number
		}
		if f[1] == "" {
			return nil, api.ErrValue, line.Number
		}
		if strings.Count(f[1], " ") > 17 {
			return nil, api.ErrLong, line.Number
		}
		place := 0
		for _, p := range all {
			if p.source == source {
				return nil, api.ErrTwice, line.Number
			}
			if p.source < source {
				place++
			}
		}
		all = slices.Insert(all, place, pair{source, proto})
	}
	return all, api.OK, 0
}

// compare holds Parse against the slow one.
func compare(t *testing.T, file []byte) {
	t.Helper()
	want, wantE, wantAt := slowParse(file)
	table, e, at := Parse(file)
	if e != wantE || at != wantAt || (table == nil) != (e != api.OK) || table.Len() != len(want) {
		t.Fatalf("%q: %v at %d, not %v at %d; %d sources, not %d", file, e, at, wantE, wantAt, table.Len(), len(want))
	}
	if got := gather(table); !samePairs(got, want) {
		t.Fatalf("%q: %x, not %x", file, got, want)
	}
}

// everyFile hands out all files of up to so many of some parts.
func everyFile(parts []string, most int, try func([]byte)) {
	var grow func(file []byte, count int)
	grow = func(file []byte, count int) {
		try(file)
		for i := 0; i < len(parts) && count < most; i++ {
			grow(append(file[:len(file):len(file)], parts[i]...), count+1)
		}
	}
	grow(nil, 0)
}

func TestParseAllShortFilesP6_1(t *testing.T) {
	eighteen, _ := texts(18)
	nineteen, _ := texts(19)
	lines := []string{
		"0430;0061;MA\n", "0430 ; 0062 ; MA # x\n", "0031;006C 0430;\r\n", "10000;0031;SL\n", "0061;" + eighteen + ";MA\n", "0000;0000;\n",
		"0430;0061\n", "0430;0061;MA;\n", "430;0061;MA\n", "0430;61;MA\n", "0430;;MA\n", "0430;" + nineteen + ";MA\n", "# 0430;0061;MA\n", "\n",
	}
	everyFile(lines, 4, func(file []byte) { compare(t, file) })
	parts := []string{"0061", "0062", "..", ";", " ", "\t", "#", "\n", "\r"}
	everyFile(parts, 6, func(file []byte) { compare(t, file) })
}

func TestProtoP6_2(t *testing.T) {
	table := must(t, "0430 ; 0061 ; MA\n0031 ; 006C ; MA\n006D ; 0072 006E ; MA\n")
	for c, want := range map[int][]int{0x31: {0x6c}, 0x6d: {0x72, 0x6e}, 0x430: {0x61}} {
		if got, ok := table.Proto(c); !ok || !slices.Equal(got, want) {
			t.Errorf("%x: %x, %v", c, got, ok)
		}
	}
	// Ahead of the first source, between two, behind the last one, a prototype's code points, and what is no code point.
	for _, c := range []int{
		0, 0x30, 0x32, 0x61, 0x6c, 0x6e, 0x72, 0x42f, 0x431, 0x10ffff,
		-1, -0x31, 0x110000, 1<<32 + 0x31, 1<<62 + 0x430, math.MaxInt, math.MinInt, math.MinInt + 0x31,
	} {
		if got, ok := table.Proto(c); ok || len(got) != 0 {
			t.Errorf("%x: %x, %v", c, got, ok)
		}
	}
	table = must(t, "10FFFF;0000;\n0000;10FFFF D800;")
	if got, ok := table.Proto(0); !ok || !slices.Equal(got, []int{0x10ffff, 0xd800}) {
		t.Errorf("the least: %x, %v", got, ok)
	}
	if got, ok := table.Proto(0x10ffff); !ok || !slices.Equal(got, []int{0}) {
		t.Errorf("the greatest: %x, %v", got, ok)
	}
}

func TestAllLeftOffAndAgainP6_2(t *testing.T) {
	all := must(t, "0430;0061;\n0031;006C;\n10000;0030 0030;\n006D;0072 006E;").All()
	want := []pair{pr(0x31, 0x6c), pr(0x6d, 0x72, 0x6e), pr(0x430, 0x61), pr(0x10000, 0x30, 0x30)}
	// Left off at the first, in the midst, at the last, gone through whole: each time from the beginning.
	for most := 1; most <= len(want)+1; most++ {
		var got []pair
		all(func(source int, proto []int) bool {
			got = append(got, pair{source, proto})
			return len(got) < most
		})
		if !samePairs(got, want[:min(most, len(want))]) {
			t.Errorf("left off at %d: %x", most, got)
		}
	}
	var got, wanted []int
	for a := range all {
		for b := range all {
			got = append(got, a, b)
		}
	}
	for _, a := range want {
		for _, b := range want {
			wanted = append(wanted, a.source, b.source)
		}
	}
	if !slices.Equal(got, wanted) {
		t.Errorf("one within the other: %x", got)
	}
}

func TestNoSourcesP6_3(t *testing.T) {
	for name, table := range map[string]*Table{"nil": nil, "empty": must(t, ""), "remarks": must(t, "# 0430;0061;MA\n")} {
		for _, c := range []int{0, 0x61, 0x430, api.MaxPoint, -1, math.MaxInt, math.MinInt} {
			if got, ok := table.Proto(c); ok || len(got) != 0 {
				t.Errorf("%s: %x: %x", name, c, got)
			}
		}
		all := table.All()
		for range 2 {
			for source := range all {
				t.Errorf("%s: %x", name, source)
			}
		}
		if table.Len() != 0 {
			t.Errorf("%s: %d sources", name, table.Len())
		}
	}
}

func TestOrderOfLinesP6_3(t *testing.T) {
	lines := []string{"0430;0061;MA\n", "0031;006C;\n", "10FFFF;0000 0001;\n", "006D;0072 006E;\n", "0000;0430;\n"}
	want := []pair{pr(0, 0x430), pr(0x31, 0x6c), pr(0x6d, 0x72, 0x6e), pr(0x430, 0x61), pr(0x10ffff, 0, 1)}
	files := 0
	everyFile(lines, len(lines), func(file []byte) {
		for _, line := range lines {
			if bytes.Count(file, []byte(line)) != 1 {
				return
			}
		}
		files++
		table := must(t, string(file))
		if got := gather(table); !samePairs(got, want) || table.Len() != len(want) {
			t.Fatalf("%q: %x", file, got)
		}
		for _, p := range want {
			if got, ok := table.Proto(p.source); !ok || !slices.Equal(got, p.proto) {
				t.Fatalf("%q: %x: %x, %v", file, p.source, got, ok)
			}
		}
	})
	if files != 5*4*3*2 {
		t.Errorf("%d orders", files)
	}
}

func TestEachCodePointP6_3(t *testing.T) {
	// A line for each code point, none in its order.
	proto := func(c int) []int { return []int{api.MaxPoint - c, c / 2}[:1+c%2] }
	var file []byte
	for i := range api.MaxPoint + 1 {
		c := i * 0x9e375 % (api.MaxPoint + 1)
		file = fmt.Appendf(file, "%04X ; %s ; MA\n", c, field.Text(proto(c)))
	}
	table, e, at := Parse(file)
	if e != api.OK || at != 0 || table.Len() != api.MaxPoint+1 {
		t.Fatalf("%v at %d, %d sources", e, at, table.Len())
	}
	next := 0
	for source, got := range table.All() {
		if source != next || !slices.Equal(got, proto(source)) {
			t.Fatalf("%x, not %x: %x", source, next, got)
		}
		next++
	}
	if next != api.MaxPoint+1 {
		t.Errorf("%x sources", next)
	}
	if table, e, at := Parse(append(file, "0000;0000;"...)); table != nil || e != api.ErrTwice || at != api.MaxPoint+2 {
		t.Errorf("one more: %v at %d", e, at)
	}
}

func TestHandedInP6_3(t *testing.T) {
	b := append(make([]byte, 0, 128), "0430 ; 0061 ; MA # x\r\n006D;0072 006E;\n"...)
	was := bytes.Clone(b[:cap(b)])
	table, e, at := Parse(b)
	if e != api.OK || at != 0 {
		t.Fatalf("%v at %d", e, at)
	}
	all := table.All()
	if !bytes.Equal(b[:cap(b)], was) {
		t.Error("what was handed in has changed")
	}
	for i := range b[:cap(b)] {
		b[:cap(b)][i] = '7'
	}
	want := []pair{pr(0x6d, 0x72, 0x6e), pr(0x430, 0x61)}
	if got := gather(table); !samePairs(got, want) || table.Len() != 2 {
		t.Errorf("the table follows a change: %x", got)
	}
	for source, proto := range all {
		if got, ok := table.Proto(source); !ok || !slices.Equal(got, proto) {
			t.Errorf("%x: %x, not %x", source, got, proto)
		}
	}

	// A wrong file stays as it is, too.
	wrong := []byte("0430;0061;\n0430;0061;\n")
	if _, e, _ := Parse(wrong); e != api.ErrTwice || string(wrong) != "0430;0061;\n0430;0061;\n" {
		t.Errorf("%v: %q", e, wrong)
	}
}

func TestNewMemoryP6_3(t *testing.T) {
	eighteen, points := texts(18)
	table := must(t, "0430;0061;\n006D;0072 006E 0062;\n0031;"+eighteen+";")
	want := []pair{{0x31, points}, pr(0x6d, 0x72, 0x6e, 0x62), pr(0x430, 0x61)}
	spoil := func(proto []int) {
		for i := range proto[:cap(proto)] {
			proto[:cap(proto)][i] = -1
		}
		_ = append(proto, -2)
	}
	same := func(after string) {
		t.Helper()
		if got := gather(table); !samePairs(got, want) {
			t.Errorf("all, after %s: %x", after, got)
		}
		for _, p := range want {
			if got, ok := table.Proto(p.source); !ok || !slices.Equal(got, p.proto) {
				t.Errorf("after %s: %x: %x, %v", after, p.source, got, ok)
			}
		}
	}
	for _, p := range want {
		one, _ := table.Proto(p.source)
		other, _ := table.Proto(p.source)
		spoil(one)
		if !slices.Equal(other, p.proto) {
			t.Errorf("%x: two answers share memory: %x", p.source, other)
		}
	}
	same("Proto's were changed")
	for _, proto := range table.All() {
		spoil(proto)
	}
	same("All's were changed")
	all := table.All()
	for source, proto := range all {
		held, _ := table.Proto(source)
		spoil(proto)
		if slices.Contains(held, -1) {
			t.Errorf("%x: All and Proto share memory", source)
		}
		for again, other := range all {
			if again == source && !slices.Equal(other, held) {
				t.Errorf("%x, one within the other: %x", source, other)
			}
		}
	}
	same("All's were changed within themselves")
}

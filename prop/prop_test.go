package prop

import (
	"bytes"
	"fmt"
	"slices"
	"testing"

	"paronym/api"
	"paronym/field"
	"paronym/span"
)

// sp is a span.
func sp(first, last int, value string) span.Span {
	return span.Span{First: first, Last: last, Value: value}
}

// vals are values that are told.
func vals(values ...string) []string {
	return values
}

// gather goes through all spans.
func gather(table *span.Table) []span.Span {
	return slices.Collect(table.All())
}

// must parses a file that is right.
func must(t *testing.T, file string, values ...string) *span.Table {
	t.Helper()
	table, e, at := Parse([]byte(file), values...)
	if e != api.OK || at != 0 || table == nil {
		t.Fatalf("%q of %q: %v at %d", file, values, e, at)
	}
	return table
}

func TestParseP5_1(t *testing.T) {
	const some = "0061..0063 ; PVALID\n0064 ; DISALLOWED\n0030;CONTEXTO\n"
	for _, x := range []struct {
		file   string
		values []string
		want   []span.Span
	}{
		// the chapter's example
		{"0061..0063 ; PVALID\n0064 ; DISALLOWED", vals("PVALID"), []span.Span{sp(0x61, 0x63, "PVALID")}},
		// no line, remarks alone
		{"", nil, nil}, {"", vals("A"), nil}, {"\n\n", nil, nil}, {"# 0061 ; A\n \t\n#\r\n", nil, nil}, {"# 0061 ; A", vals("A"), nil},
		// two fields, three and more, blanks, remarks, ends of lines
		{"0061;A", nil, []span.Span{sp(0x61, 0x61, "A")}}, {"0061;A\n", vals("A"), []span.Span{sp(0x61, 0x61, "A")}},
		{"0061;A;", nil, []span.Span{sp(0x61, 0x61, "A")}}, {"0061;A;0062", vals("A"), []span.Span{sp(0x61, 0x61, "A")}},
		{"0061;A;B;;0061;C # D", nil, []span.Span{sp(0x61, 0x61, "A")}}, {"0061;A;B", vals("B"), nil},
		{" 0061..0062\t;\tA B ;;\r\n\r\n0063 ;A\r", vals("A B"), []span.Span{sp(0x61, 0x62, "A B")}},
		{"0061 ; A#;B\n#0062 ; A\n0063 ; A", nil, []span.Span{sp(0x61, 0x61, "A"), sp(0x63, 0x63, "A")}},
		// no values told, one, several, the same one twice, one that no line has, the empty one
		{some, nil, []span.Span{sp(0x30, 0x30, "CONTEXTO"), sp(0x61, 0x63, "PVALID"), sp(0x64, 0x64, "DISALLOWED")}},
		{some, []string{}, []span.Span{sp(0x30, 0x30, "CONTEXTO"), sp(0x61, 0x63, "PVALID"), sp(0x64, 0x64, "DISALLOWED")}},
		{some, vals("DISALLOWED"), []span.Span{sp(0x64, 0x64, "DISALLOWED")}},
		{some, vals("PVALID", "CONTEXTO"), []span.Span{sp(0x30, 0x30, "CONTEXTO"), sp(0x61, 0x63, "PVALID")}},
		{some, vals("CONTEXTO", "PVALID"), []span.Span{sp(0x30, 0x30, "CONTEXTO"), sp(0x61, 0x63, "PVALID")}},
		{some, vals("PVALID", "PVALID"), []span.Span{sp(0x61, 0x63, "PVALID")}},
		{some, vals("PVALID", "x", "PVALID", "CONTEXTO", "PVALID"), []span.Span{sp(0x30, 0x30, "CONTEXTO"), sp(0x61, 0x63, "PVALID")}},
		{some, vals("x"), nil}, {some, vals("x", "CONTEXTO"), []span.Span{sp(0x30, 0x30, "CONTEXTO")}},
		{some, vals(""), nil}, {some, vals("", "PVALID"), []span.Span{sp(0x61, 0x63, "PVALID")}}, {some, vals("PVALID", ""), []span.Span{sp(0x61, 0x63, "PVALID")}},
		// values are told whole, letter by letter
		{some, vals("PVALI", "PVALIDX", "pvalid", " PVALID", "PVALID "), nil},
		{"0061 ; \u00e9\n0062 ; \xff\n0063 ; a b", vals("\u00e9", "\xff", "a b"), []span.Span{sp(0x61, 0x61, "\u00e9"), sp(0x62, 0x62, "\xff"), sp(0x63, 0x63, "a b")}},
		// lines that don't come in order, spans that touch
		{"0070..0072;B\n0061;A\n0065..0067;A", nil, []span.Span{sp(0x61, 0x61, "A"), sp(0x65, 0x67, "A"), sp(0x70, 0x72, "B")}},
		{"0061..0062;A\n0063..0064;A\n0060;A", nil, []span.Span{sp(0x60, 0x60, "A"), sp(0x61, 0x62, "A"), sp(0x63, 0x64, "A")}},
		{"0063;B\n0061..0062;A\n0064;A", vals("A", "B"), []span.Span{sp(0x61, 0x62, "A"), sp(0x63, 0x63, "B"), sp(0x64, 0x64, "A")}},
		// the least and the greatest code points
		{"10FFFF;A\n0000;B", nil, []span.Span{sp(0, 0, "B"), sp(0x10ffff, 0x10ffff, "A")}},
		{"0000..10FFFF;A", nil, []span.Span{sp(0, 0x10ffff, "A")}}, {"D800..DFFF;A", vals("A"), []span.Span{sp(0xd800, 0xdfff, "A")}},
	} {
		table, e, at := Parse([]byte(x.file), x.values...)
		if e != api.OK || at != 0 || table == nil {
			t.Errorf("%q of %q: %v at %d", x.file, x.values, e, at)
			continue
		}
		if got := gather(table); !slices.Equal(got, x.want) || table.Len() != len(x.want) {
			t.Errorf("%q of %q: %v", x.file, x.values, got)
		}
	}
}

func TestParseWrongP5_1(t *testing.T) {
	for _, x := range []struct {
		file   string
		values []string
		e      api.Errno
		at     int
	}{
		// one field
		{"0061", nil, api.ErrField, 1}, {"A", vals("A"), api.ErrField, 1}, {"0061 # ; A", nil, api.ErrField, 1}, {"\n#\n 0061 A\n", nil, api.ErrField, 3}, {"\r\r", nil, api.ErrField, 1},
		{"0061 .. 0062", nil, api.ErrField, 1},
		// a range's text that is none
		{";", nil, api.ErrHex, 1}, {";A", nil, api.ErrHex, 1}, {"61;A", nil, api.ErrHex, 1}, {"006a;A", nil, api.ErrHex, 1}, {"00061;A", nil, api.ErrHex, 1}, {"110000;A", nil, api.ErrHex, 1},
		{"0061..;A", nil, api.ErrHex, 1}, {"..0061;A", nil, api.ErrHex, 1}, {"0061 .. 0062;A", nil, api.ErrHex, 1}, {"0061-0062;A", nil, api.ErrHex, 1}, {"0061 0062;A", nil, api.ErrHex, 1},
		{"0061..110000;A", vals("A"), api.ErrHex, 1}, {"A;0061", vals("A"), api.ErrHex, 1}, {"\n\n61;A", vals("B"), api.ErrHex, 3},
		// one that runs backwards, or tells one code point twice
		{"0062..0061;A", nil, api.ErrRange, 1}, {"0061..0061;A", nil, api.ErrRange, 1}, {"#\n10FFFF..0000;A", vals("B"), api.ErrRange, 2},
		// an empty value
		{"0061;", nil, api.ErrValue, 1}, {"0061; \t", vals("A"), api.ErrValue, 1}, {"0061;;A", vals("A"), api.ErrValue, 1}, {"0061;#A", nil, api.ErrValue, 1}, {"0061;", vals(""), api.ErrValue, 1}, {"\n0061..0062 ; ; ", vals("A", ""), api.ErrValue, 2},
		// a code point told twice: by one value, by two, at a range's first one, its last one, within
		{"0061;A\n0061;A", nil, api.ErrTwice, 2}, {"0061;A\n0061;B", nil, api.ErrTwice, 2}, {"0061;A\n0061;B", vals("B", "A"), api.ErrTwice, 2}, {"0061;A\n#\n0061;A", vals("A", "A"), api.ErrTwice, 3},
		{"0061..0065;A\n0061;A", vals("A"), api.ErrTwice, 2}, {"0061..0065;A\n0063;A", vals("A"), api.ErrTwice, 2}, {"0061..0065;A\n0065;A", vals("A"), api.ErrTwice, 2},
		{"0061;A\n0061..0065;A", vals("A"), api.ErrTwice, 2}, {"0063;A\n0061..0065;A", vals("A"), api.ErrTwice, 2}, {"0065;A\n0061..0065;A", vals("A"), api.ErrTwice, 2},
		{"0061..0065;A\n0062..0064;B", nil, api.ErrTwice, 2}, {"0062..0064;B\n0061..0065;A", nil, api.ErrTwice, 2}, {"0061..0065;A\n0065..0069;B", nil, api.ErrTwice, 2}, {"0065..0069;B\n0061..0065;A", nil, api.ErrTwice, 2},
		{"0061..0065;A\n0061..0065;A", nil, api.ErrTwice, 2}, {"0061;A\n0063;B\n0065;C\n0060..0070;D", nil, api.ErrTwice, 4}, {"0041;A\n0062;B\n0043;C\n0062;A\n0041;A", nil, api.ErrTwice, 4},
		{"0000;A\n0000..10FFFF;B", nil, api.ErrTwice, 2}, {"10FFFF;A\n0000..10FFFF;B", nil, api.ErrTwice, 2}, {"0000..10FFFF;A\n10FFFF;B", nil, api.ErrTwice, 2}, {"0000..10FFFF;A\n0000;B", nil, api.ErrTwice, 2},
		{"0061;A\n0061;B\n0061;A", vals("A"), api.ErrTwice, 3}, {"0061;B\n0061;B\n0061;A\n0060..0062;C", vals("A", "C"), api.ErrTwice, 4},
		// several in one line: fields, the range, the value, then twice
		{"61;", nil, api.ErrHex, 1}, {";;", nil, api.ErrHex, 1}, {"0062..0061;", nil, api.ErrRange, 1}, {"0062..61;", nil, api.ErrHex, 1},
		{"0061;A\n0061", nil, api.ErrField, 2}, {"0061;A\n0061;", nil, api.ErrValue, 2}, {"0061;A\n0061..0061;A", nil, api.ErrRange, 2}, {"0061;A\n0061..;A", nil, api.ErrHex, 2},
		// several lines: the first one that is wrong
		{"0061;A\n0061;A\n0062", nil, api.ErrTwice, 2}, {"0061;A\n0062\n0061;A", nil, api.ErrField, 2}, {"0061;\n0061", nil, api.ErrValue, 1}, {"0062..0061;A\n61;A", nil, api.ErrRange, 1}, {"61;A\n0062..0061;A", nil, api.ErrHex, 1},
		{"0061;A\n0061;B\n61;B", vals("A"), api.ErrHex, 3}, {"0061;A\n0061;B\n0061;A\n61;B", vals("A"), api.ErrTwice, 3},
		// lines of other values are looked at too, but for what is told twice
		{"0061", vals("A"), api.ErrField, 1}, {"0061;A\n61;B", vals("A"), api.ErrHex, 2}, {"0061;A\n0062..0061;B", vals("A"), api.ErrRange, 2}, {"0061;A\n0062;", vals("A"), api.ErrValue, 2},
	} {
		if table, e, at := Parse([]byte(x.file), x.values...); table != nil || e != x.e || at != x.at {
			t.Errorf("%q of %q: %v at %d, not %v at %d", x.file, x.values, e, at, x.e, x.at)
		}
	}
}

// slowParse is Parse by the chapter's words, a code point at a time; lines and ranges are layer 2's.
func slowParse(file []byte, values []string) (map[int]string, int, api.Errno, int) {
	points, spans := map[int]string{}, 0
	for line := range field.Lines(file) {
		if len(line.Fields) < 2 {
			return nil, 0, api.ErrField, line.Number
		}
		first, last, e := field.Range(line.Fields[0])
		if e != api.OK {
			return nil, 0, e, line.Number
		}
		value := line.Fields[1]
		if value == "" {
			return nil, 0, api.ErrValue, line.Number
		}
		if len(values) > 0 && !slices.Contains(values, value) {
			continue
		}
		for c := first; c <= last; c++ {
			if points[c] != "" {
				return nil, 0, api.ErrTwice, line.Number
			}
		}
		for c := first; c <= last; c++ {
			points[c] = value
		}
		spans++
	}
	return points, spans, api.OK, 0
}

// compare holds Parse against the slow one, from 0058 to 0070, where all code points of the file must be.
func compare(t *testing.T, file []byte, values []string) {
	t.Helper()
	points, spans, wantE, wantAt := slowParse(file, values)
	table, e, at := Parse(file, values...)
	if e != wantE || at != wantAt || (table == nil) != (e != api.OK) || table.Len() != spans {
		t.Fatalf("%q of %q: %v at %d, not %v at %d; %d spans, not %d", file, values, e, at, wantE, wantAt, table.Len(), spans)
	}
	for c := 0x58; c <= 0x70; c++ {
		if got := table.Value(c); got != points[c] {
			t.Fatalf("%q of %q: %x has %q, not %q", file, values, c, got, points[c])
		}
	}
}

// everyFile hands out all files of up to so many of some parts.
func everyFile(parts []string, most int, try func([]byte)) {
	var grow func(file []byte, count int)
	grow = func(file []byte, count int) {
		try(file)
		for i := 0; i < len(parts) && count < most; i++ {
			grow(append(file[:len(file):len(file)], parts[i]...), count+1)
		}
	}
	grow(nil, 0)
}

func TestParseAllShortFilesP5_1(t *testing.T) {
	lines := []string{
		"0061;A\n", "0062 ; B # x\n", "0063;A;\n", "0061..0063;A\n", "0062..0064;B\n", "0060..0061;A\n", "0063..0069;C\r\n", "0062;\u00e9\n", "0064;C\n",
		"0061\n", "62;A\n", "0063..0062;B\n", "0063;\n", "# 0061;A\n", "\n",
	}
	told := [][]string{nil, vals("A"), vals("B", "A"), vals("C", "", "C")}
	everyFile(lines, 3, func(file []byte) {
		for _, values := range told {
			compare(t, file, values)
		}
	})
	everyFile(lines[:9], 4, func(file []byte) {
		compare(t, file, vals("A", "B"))
	})
	parts := []string{"0061", "0062", "..", ";", "A", " ", "#", "\n", "\r"}
	everyFile(parts, 5, func(file []byte) {
		compare(t, file, nil)
		compare(t, file, vals("A"))
	})
}

func TestParseTwiceAnywhereP5_1(t *testing.T) {
	// Sizes around those of words: what is told twice is found at each place, and nothing else is.
	edges := []int{0, 1, 62, 63, 64, 65, 126, 127, 128, 129, 0xffff, 0x10000, 0x10fffe, 0x10ffff}
	text := func(first, last int) string {
		if first == last {
			return fmt.Sprintf("%04X;A\n", first)
		}
		return fmt.Sprintf("%04X..%04X;A\n", first, last)
	}
	for _, a := range edges {
		for _, b := range edges {
			for _, c := range edges {
				for _, d := range edges {
					// Long ranges only where they matter, since each code point takes its time.
					if a > b || c > d || b-a > 0x200 || d-c > 0x200 {
						continue
					}
					file := text(a, b) + "0200;B\n" + text(c, d)
					table, e, at := Parse([]byte(file), "A")
					if a <= d && c <= b {
						if table != nil || e != api.ErrTwice || at != 3 {
							t.Fatalf("%q: %v at %d", file, e, at)
						}
					} else if e != api.OK || at != 0 || table.Len() != 2 {
						t.Fatalf("%q: %v at %d", file, e, at)
					}
				}
			}
		}
	}
}

// scattered is a file with a line for each code point, none in its order.
func scattered() []byte {
	var b []byte
	for i := range api.MaxPoint + 1 {
		c := i * 0x9e375 % (api.MaxPoint + 1)
		b = fmt.Appendf(b, "%04X ; V%d\n", c, c%3)
	}
	return b
}

func TestParseManyLinesP5_1(t *testing.T) {
	file := scattered()
	table, e, at := Parse(file)
	if e != api.OK || at != 0 || table.Len() != api.MaxPoint+1 {
		t.Fatalf("%v at %d, %d spans", e, at, table.Len())
	}
	for c := range api.MaxPoint + 1 {
		if table.Value(c) != fmt.Sprintf("V%d", c%3) {
			t.Fatalf("%x: %q", c, table.Value(c))
		}
	}
	file = append(file, "0061;V1\n"...)
	if table, e, at := Parse(file); table != nil || e != api.ErrTwice || at != api.MaxPoint+2 {
		t.Errorf("%v at %d", e, at)
	}
	if table, e, at := Parse(file, "V0"); e != api.OK || at != 0 || table.Len() != (api.MaxPoint+3)/3 {
		t.Errorf("%v at %d, %d spans", e, at, table.Len())
	}
	// Many values, none of them the line's but the last one.
	var values []string
	for i := range 100000 {
		values = append(values, fmt.Sprintf("W%d", i))
	}
	values = append(values, "V2")
	if table, e, at := Parse(file, values...); e != api.OK || at != 0 || table.Len() != (api.MaxPoint+1)/3 {
		t.Errorf("%v at %d, %d spans", e, at, table.Len())
	}
}

// count are so many numbers, from the first one on.
func count(first, many int) []int {
	var s []int
	for i := range many {
		s = append(s, first+i)
	}
	return s
}

func TestPointsP5_2(t *testing.T) {
	for _, x := range []struct {
		file  string
		value string
		want  []int
	}{
		// with no code point, with one, with some, rising however the lines come
		{"", "A", nil}, {"0061;A", "B", nil}, {"0061;A", "A", []int{0x61}}, {"0061;A", "a", nil}, {"0061;A", "A ", nil}, {"0061;AB", "A", nil},
		{"0070..0072;A\n0061;A\n0066;B\n0065;A", "A", []int{0x61, 0x65, 0x70, 0x71, 0x72}}, {"0070..0072;A\n0061;A\n0066;B\n0065;A", "B", []int{0x66}},
		{"0000;A\n10FFFF;A\nD800;A", "A", []int{0, 0xd800, 0x10ffff}},
		// the empty value
		{"0061..0063;A", "", nil}, {"", "", nil},
		// 4095, 4096 and more, in one span and in several
		{"0000..0FFE;A", "A", count(0, 4095)}, {"0000..0FFF;A", "A", count(0, 4096)}, {"0000..1000;A", "A", count(0, 4096)}, {"0000..10FFFF;A", "A", count(0, 4096)},
		{"10F000..10FFFF;A\n0000..FFFF;B", "A", count(0x10f000, 4096)},
		{"1000;A\n0000..0FFE;A\n0FFF;B", "A", append(count(0, 4095), 0x1000)}, {"1000..1001;A\n0000..0FFE;A\n0FFF;B", "A", append(count(0, 4095), 0x1000)},
		{"2000;A\n0000..0FFF;A", "A", count(0, 4096)}, {"0001..0FFF;A\n2000..3000;A\n0000;A", "A", count(0, 4096)}, {"0000..0FFD;A\n2000..3000;A", "A", append(count(0, 4094), 0x2000, 0x2001)},
	} {
		if got := Points(must(t, x.file), x.value); !slices.Equal(got, x.want) {
			t.Errorf("%q of %q: %d code points", x.file, x.value, len(got))
		}
	}
	for _, value := range vals("", "A") {
		if got := Points(nil, value); len(got) != 0 {
			t.Errorf("nil: %x", got)
		}
	}
	// Values that weren't told have no code points.
	if got := Points(must(t, "0061;A\n0062;B", "A"), "B"); len(got) != 0 {
		t.Errorf("%x", got)
	}
	// Any table will do, not only those of files.
	if table, e := span.New(sp(5, 6, "x"), sp(1, 2, "x")); e != api.OK || !slices.Equal(Points(table, "x"), []int{1, 2, 5, 6}) {
		t.Errorf("%v", e)
	}
}

func TestOtherValuesP5_3(t *testing.T) {
	const alone = "0061..0063;A\n\n\n0070;B\n\n0064;A\n"
	const with = "0061..0063;A\n0062;C\n0000..10FFFF;C\n0070;B\n0060..0061;D;A;B\n0064;A\n0064;a"
	want := []span.Span{sp(0x61, 0x63, "A"), sp(0x64, 0x64, "A"), sp(0x70, 0x70, "B")}
	for _, file := range vals(alone, with) {
		for _, values := range [][]string{vals("A", "B"), vals("B", "A", "A"), vals("A", "x", "B")} {
			if got := gather(must(t, file, values...)); !slices.Equal(got, want) {
				t.Errorf("%q of %q: %v", file, values, got)
			}
		}
		if got := gather(must(t, file, "A")); !slices.Equal(got, want[:2]) {
			t.Errorf("%q of A: %v", file, got)
		}
	}
	// Told twice by two values, one of which isn't told: no error, whichever stands ahead.
	for _, file := range vals("0061;A\n0061;B", "0061;B\n0061;A", "0061;B\n0061;A\n0061;B", "0061..0062;B\n0060..0061;B\n0061;A") {
		if got := gather(must(t, file, "A")); !slices.Equal(got, []span.Span{sp(0x61, 0x61, "A")}) {
			t.Errorf("%q: %v", file, got)
		}
	}
}

func TestHandedInP5_3(t *testing.T) {
	b := append(make([]byte, 0, 128), "0070;B\n0061..0063 ; AA ; x # y\r\n0064;C\n"...)
	values := append(make([]string, 0, 8), "B", "AA", "B", "x")
	room := values[:cap(values)]
	room[5] = "C"
	wasOctets, wasValues := bytes.Clone(b[:cap(b)]), slices.Clone(room)
	table, e, at := Parse(b, values...)
	other, _, _ := Parse(b, values...)
	if e != api.OK || at != 0 {
		t.Fatalf("%v at %d", e, at)
	}
	if !bytes.Equal(b[:cap(b)], wasOctets) || !slices.Equal(room, wasValues) {
		t.Error("what was handed in has changed")
	}

	want := []span.Span{sp(0x61, 0x63, "AA"), sp(0x70, 0x70, "B")}
	for i := range b {
		b[i] = '7'
	}
	for i := range room {
		room[i] = "C"
	}
	if got := gather(table); !slices.Equal(got, want) || table.Value(0x64) != "" {
		t.Errorf("the table follows a change: %v", got)
	}
	if got, points := gather(other), Points(other, "AA"); !slices.Equal(got, want) || !slices.Equal(points, []int{0x61, 0x62, 0x63}) {
		t.Errorf("the other one follows a change: %v, %x", got, points)
	}

	// A wrong file and its values stay as they are, too.
	wrong := []byte("0061;A\n0061;A\n")
	if _, e, _ := Parse(wrong, "A"); e != api.ErrTwice || string(wrong) != "0061;A\n0061;A\n" {
		t.Errorf("%v: %q", e, wrong)
	}
}

func TestPointsNewMemoryP5_3(t *testing.T) {
	table := must(t, "0061..0063;A\n0070;A\n1000..5000;B")
	for value, want := range map[string][]int{"A": {0x61, 0x62, 0x63, 0x70}, "B": count(0x1000, 4096)} {
		one, other := Points(table, value), Points(table, value)
		clear(one[:cap(one)])
		if !slices.Equal(other, want) || !slices.Equal(Points(table, value), want) {
			t.Errorf("answers of %s share memory", value)
		}
	}
	if got := gather(table); !slices.Equal(got, []span.Span{sp(0x61, 0x63, "A"), sp(0x70, 0x70, "A"), sp(0x1000, 0x5000, "B")}) {
		t.Errorf("the table follows a change: %v", got)
	}
}

package field

import (
	"bytes"
	"fmt"
	"math"
	"slices"
	"strings"
	"testing"

	"paronym/api"
)

// gather goes through all lines.
func gather(b []byte) []Line {
	return slices.Collect(Lines(b))
}

// sameLines tells whether numbers and fields are alike, in order.
func sameLines(a, b []Line) bool {
	return slices.EqualFunc(a, b, func(x, y Line) bool {
		return x.Number == y.Number && slices.Equal(x.Fields, y.Fields)
	})
}

func line(number int, fields ...string) Line {
	return Line{number, fields}
}

func TestLinesP2_1(t *testing.T) {
	for _, x := range []struct {
		b    string
		want []Line
	}{
		{"0041..005A ; PVALID # letters", []Line{line(1, "0041..005A", "PVALID")}},
		{"a\nb;c\n\n# d\ne", []Line{line(1, "a"), line(2, "b", "c"), line(5, "e")}},
		// no line, and none that has fields
		{"", nil}, {"\n", nil}, {"\n\n\n", nil}, {"\r", nil}, {"\r\n", nil}, {"\r\n\r", nil},
		{" ", nil}, {"\t", nil}, {" \t \n\t\r\n \t\r", nil}, {"#", nil}, {"#a;b", nil}, {" \t#a", nil}, {"#\n##\r\n", nil},
		// a last line with and without 0A
		{"a", []Line{line(1, "a")}}, {"a\n", []Line{line(1, "a")}}, {"a\nb", []Line{line(1, "a"), line(2, "b")}},
		{"a\nb\n", []Line{line(1, "a"), line(2, "b")}}, {"\na", []Line{line(2, "a")}}, {"a\n\n\nb\n\n", []Line{line(1, "a"), line(4, "b")}},
		// 0D right ahead of 0A, at the end, and elsewhere
		{"a\r\nb\r", []Line{line(1, "a"), line(2, "b")}}, {"a \r\n b\t\r\n", []Line{line(1, "a"), line(2, "b")}},
		{"a\r\r\n", []Line{line(1, "a\r")}}, {"a\r\r", []Line{line(1, "a\r")}}, {"\r\r\n", []Line{line(1, "\r")}}, {"\r\r", []Line{line(1, "\r")}},
		{"\ra\n", []Line{line(1, "\ra")}}, {"a\rb", []Line{line(1, "a\rb")}}, {"a\r;b\r\n", []Line{line(1, "a\r", "b")}},
		{"a\r \n", []Line{line(1, "a\r")}}, {"\r \n", []Line{line(1, "\r")}}, {" \r\t", []Line{line(1, "\r")}},
		{"a\r#b\n", []Line{line(1, "a\r")}}, {"\r#\n", []Line{line(1, "\r")}}, {"a\r#\r\n", []Line{line(1, "a\r")}}, {"a#\r\nb", []Line{line(1, "a"), line(2, "b")}},
		{"\n\ra", []Line{line(2, "\ra")}},
		// # anywhere, the first of several
		{"a#b", []Line{line(1, "a")}}, {"a ; b #c;d#e", []Line{line(1, "a", "b")}}, {"a;#b", []Line{line(1, "a", "")}}, {"#a\nb", []Line{line(2, "b")}},
		// ; alone, and empty fields
		{";", []Line{line(1, "", "")}}, {" ; ", []Line{line(1, "", "")}}, {";;;", []Line{line(1, "", "", "", "")}}, {";\r\n;", []Line{line(1, "", ""), line(2, "", "")}},
		{"a;", []Line{line(1, "a", "")}}, {";a", []Line{line(1, "", "a")}}, {"a;;b", []Line{line(1, "a", "", "b")}}, {";#;", []Line{line(1, "", "")}},
		// blanks and tabs at both ends, and within
		{" \ta b\t c \t;\t \t; d", []Line{line(1, "a b\t c", "", "d")}},
		// other octets are no blanks
		{"\x00", []Line{line(1, "\x00")}}, {"\v;\f", []Line{line(1, "\v", "\f")}}, {"\xa0", []Line{line(1, "\xa0")}},
		{" \xc2\xa0 ;\u2003;\xff\x80 ", []Line{line(1, "\u00a0", "\u2003", "\xff\x80")}}, {"\u2028;\u0085", []Line{line(1, "\u2028", "\u0085")}},
	} {
		if got := gather([]byte(x.b)); !sameLines(got, x.want) {
			t.Errorf("%q: %#v", x.b, got)
		}
	}
	if got := gather(nil); len(got) != 0 {
		t.Errorf("nil: %#v", got)
	}
}

// slowLines reads octet by octet, by the chapter's words.
func slowLines(b []byte) []Line {
	var lines []Line
	number, fields, text := 1, []string{}, []byte{}
	comment, something := false, false
	endField := func() {
		for len(text) > 0 && (text[0] == ' ' || text[0] == '\t') {
			text = text[1:]
		}
		for len(text) > 0 && (text[len(text)-1] == ' ' || text[len(text)-1] == '\t') {
			text = text[:len(text)-1]
		}
		fields, text = append(fields, string(text)), nil
	}
	endLine := func() {
		endField()
		if something {
			lines = append(lines, Line{number, fields})
		}
		number, fields, comment, something = number+1, nil, false, false
	}
	for i, o := range b {
		atEnd := i+1 == len(b) || b[i+1] == '\n'
		switch {
		case o == '\n':
			endLine()
		case comment || o == '\r' && atEnd:
		case o == '#':
			comment = true
		case o == ';':
			something = true
			endField()
		default:
			something = something || o != ' ' && o != '\t'
			text = append(text, o)
		}
	}
	endLine()
	return lines
}

func TestLinesAllShortFilesP2_1(t *testing.T) {
	some := []byte("\n\r \t#;a")
	var file []byte
	var try func()
	try = func() {
		if got, want := gather(file), slowLines(file); !sameLines(got, want) {
			t.Fatalf("%q: %#v, not %#v", file, got, want)
		}
		if len(file) == 6 {
			return
		}
		for _, o := range some {
			file = append(file, o)
			try()
			file = file[:len(file)-1]
		}
	}
	try()
}

func TestLinesLeftOffAndAgainP2_1(t *testing.T) {
	lines := Lines([]byte("a\n\nb;c\n#\nd\n;"))
	want := []Line{line(1, "a"), line(3, "b", "c"), line(5, "d"), line(6, "", "")}
	for most := range len(want) + 1 {
		var got []Line
		calls := 0
		lines(func(l Line) bool {
			calls++
			got = append(got, l)
			return len(got) < most
		})
		if n := max(most, 1); calls != n || !sameLines(got, want[:n]) {
			t.Errorf("left off at %d: %d calls, %#v", most, calls, got)
		}
	}
	pairs := 0
	for a := range lines {
		for b := range lines {
			pairs += a.Number * b.Number
		}
	}
	if pairs != 15*15 {
		t.Errorf("one within the other: %d", pairs)
	}
}

func TestPointP2_2(t *testing.T) {
	for c := range 0x110000 {
		s := fmt.Sprintf("%04X", c)
		if got, e := Point(s); e != api.OK || got != c {
			t.Fatalf("%s: %x, %v", s, got, e)
		}
	}
}

func TestPointWrongP2_2(t *testing.T) {
	wrong := []string{
		"", " ", "0", "00", "000", "41", "FFF", "00000", "00041", "0FFFF", "000041", "010000", "01F600", "0FFFFF", "00FFFF",
		"110000", "11FFFF", "200000", "FFFFFF", "1000000", "0010FFFF", "00000041", "110041", "FFFFFFFFFFFFFFFF", "10000000000000041",
		"004a", "ffff", "fFFF", "FFFf", "1f600", "10fFFF", "10FFFf", "00aa",
		"G041", "004G", "0G41", "/041", ":041", "@041", "`041", "004/", "004:", "004@", "-041", "+041", "0x41", "0X41", "U+41", "U+0041", "00_41",
		" 0041", "0041 ", " 041", "041 ", "00 41", "0041\n", "0041\x00", "\t0041", "0041..0042", "0041;", "0041.",
		"004\u0661", "\uff10041", "\xff041", "00\x8041", strings.Repeat("0", 40), "0041" + strings.Repeat("0", 64),
	}
	for _, s := range wrong {
		if c, e := Point(s); e != api.ErrHex || c != 0 {
			t.Errorf("%q: %x, %v", s, c, e)
		}
	}
	for c := range 0x1100 {
		for n := range 9 {
			s := fmt.Sprintf("%0*X", n, c<<8|c>>4)
			want := c<<8 | c>>4
			right := s == fmt.Sprintf("%04X", want) && want <= 0x10ffff
			if got, e := Point(s); right != (e == api.OK) || right && got != want || !right && (got != 0 || e != api.ErrHex) {
				t.Fatalf("%s: %x, %v", s, got, e)
			}
		}
	}
	for place := range 4 {
		for o := range 256 {
			s := []byte("1111")
			s[place] = byte(o)
			right := strings.ContainsRune("0123456789ABCDEF", rune(o))
			if _, e := Point(string(s)); right != (e == api.OK) {
				t.Errorf("%q: %v", s, e)
			}
		}
	}
}

func TestRangeP2_2(t *testing.T) {
	for _, x := range []struct {
		s           string
		first, last int
		e           api.Errno
	}{
		{"0041", 0x41, 0x41, api.OK}, {"0000", 0, 0, api.OK}, {"10FFFF", 0x10ffff, 0x10ffff, api.OK},
		{"0041..005A", 0x41, 0x5a, api.OK}, {"0000..10FFFF", 0, 0x10ffff, api.OK}, {"FFFF..10000", 0xffff, 0x10000, api.OK},
		{"FFFFF..100000", 0xfffff, 0x100000, api.OK}, {"D7FF..D800", 0xd7ff, 0xd800, api.OK}, {"0041..0042", 0x41, 0x42, api.OK},
		// the last one the same, or below
		{"0041..0041", 0, 0, api.ErrRange}, {"0042..0041", 0, 0, api.ErrRange}, {"10000..FFFF", 0, 0, api.ErrRange},
		{"0001..0000", 0, 0, api.ErrRange}, {"0000..0000", 0, 0, api.ErrRange}, {"10FFFF..10FFFF", 0, 0, api.ErrRange}, {"10FFFF..0000", 0, 0, api.ErrRange},
		// a text that is none, at each side, ahead of the range's own error
		{"", 0, 0, api.ErrHex}, {"..", 0, 0, api.ErrHex}, {"41", 0, 0, api.ErrHex}, {"0041..", 0, 0, api.ErrHex}, {"..0041", 0, 0, api.ErrHex},
		{"0041.0042", 0, 0, api.ErrHex}, {"0041...0042", 0, 0, api.ErrHex}, {"0041....0042", 0, 0, api.ErrHex}, {"0041..0042..0043", 0, 0, api.ErrHex}, {"0041..0042..", 0, 0, api.ErrHex},
		{"0041 ..0042", 0, 0, api.ErrHex}, {"0041.. 0042", 0, 0, api.ErrHex}, {"0041 0042", 0, 0, api.ErrHex}, {"0041-0042", 0, 0, api.ErrHex}, {"0041.", 0, 0, api.ErrHex}, {".0041", 0, 0, api.ErrHex},
		{"0041..004b", 0, 0, api.ErrHex}, {"004b..0041", 0, 0, api.ErrHex}, {"0042..41", 0, 0, api.ErrHex}, {"0041..110000", 0, 0, api.ErrHex}, {"110000..110001", 0, 0, api.ErrHex},
		{"00041..0042", 0, 0, api.ErrHex}, {"0041..00042", 0, 0, api.ErrHex}, {"10FFFF..110000", 0, 0, api.ErrHex}, {"..\n", 0, 0, api.ErrHex}, {"\xff..\xff", 0, 0, api.ErrHex},
	} {
		if first, last, e := Range(x.s); first != x.first || last != x.last || e != x.e {
			t.Errorf("%q: %x, %x, %v", x.s, first, last, e)
		}
	}
}

func TestSequenceP2_2(t *testing.T) {
	for s, want := range map[string][]int{
		"": nil, "0000": {0}, "0041": {0x41}, "0041 0042": {0x41, 0x42}, "0041 0041": {0x41, 0x41}, "0042 0041": {0x42, 0x41},
		"FFFF 10000 FFFFF 100000 10FFFF D800 0000": {0xffff, 0x10000, 0xfffff, 0x100000, 0x10ffff, 0xd800, 0},
	} {
		if got, e := Sequence(s); e != api.OK || !slices.Equal(got, want) {
			t.Errorf("%q: %x, %v", s, got, e)
		}
	}
	for _, s := range []string{
		" ", "  ", "0041 ", " 0041", "0041  0042", "0041 0042 ", " 0041 0042", "0041\t0042", "0041\n", "0041,0042", "00410042", "0041 42", "41 0042",
		"0041 00042", "0041 004b", "0041 110000", "0041..0042", "0041\u00a00042", "0041 0042  0043", "0041 \t0042", "\xff", "0041 G",
	} {
		if got, e := Sequence(s); e != api.ErrHex || got != nil {
			t.Errorf("%q: %x, %v", s, got, e)
		}
	}
}

func TestTextP2_2(t *testing.T) {
	for _, x := range []struct {
		s    []int
		want string
	}{
		{nil, ""}, {[]int{}, ""}, {[]int{0}, "0000"}, {[]int{0xabc}, "0ABC"}, {[]int{0x41, 0x430}, "0041 0430"},
		{[]int{0xffff, 0x10000, 0xfffff, 0x100000, 0x10ffff}, "FFFF 10000 FFFFF 100000 10FFFF"}, {[]int{0xd800, 0xdfff}, "D800 DFFF"},
	} {
		if got := Text(x.s); got != x.want {
			t.Errorf("%x: %q", x.s, got)
		}
	}
	for _, c := range []int{-1, -0x41, 0x110000, 0x110001, 0x1000000, 1<<32 + 0x41, math.MaxInt, math.MinInt, math.MinInt + 0x41} {
		for _, s := range [][]int{{c}, {c, 0x41}, {0x41, c}, {0x41, c, 0x42}} {
			if got := Text(s); got != "" {
				t.Errorf("%x: %q", s, got)
			}
		}
	}
}

func TestThereAndBackP2_3(t *testing.T) {
	var all []int
	for c := range 0x110000 {
		all = append(all, c)
		s := Text([]int{c})
		if s != fmt.Sprintf("%04X", c) {
			t.Fatalf("%x: %q", c, s)
		}
		if got, e := Point(s); e != api.OK || got != c {
			t.Fatalf("%x: %x, %v", c, got, e)
		}
		if first, last, e := Range(s); e != api.OK || first != c || last != c {
			t.Fatalf("%x: %x, %x, %v", c, first, last, e)
		}
	}
	text := Text(all)
	got, e := Sequence(text)
	if e != api.OK || !slices.Equal(got, all) {
		t.Fatalf("%v: %d code points", e, len(got))
	}
	if Text(got) != text {
		t.Error("the text isn't the same again")
	}
	for l := range Lines([]byte(text + " ; " + text + "\n")) {
		if !slices.Equal(l.Fields, []string{text, text}) {
			t.Error("a line's field isn't the text again")
		}
	}
}

func TestHandedInP2_3(t *testing.T) {
	b := append(make([]byte, 0, 64), " a ;\tb\r\nc#d\r"...)
	wasOctets := slices.Clone(b[:cap(b)])
	roomy := append(make([]int, 0, 8), 0x41, 0x10ffff)
	wasInts := slices.Clone(roomy[:cap(roomy)])

	lines := Lines(b)
	got, other := slices.Collect(lines), slices.Collect(lines)
	one := Text(roomy)
	if !bytes.Equal(b[:cap(b)], wasOctets) || !slices.Equal(roomy[:cap(roomy)], wasInts) {
		t.Error("what was handed in has changed")
	}

	// Neither a change of what was handed in nor one of an answer may reach another answer.
	clear(b[:cap(b)])
	clear(roomy[:cap(roomy)])
	want := []Line{line(1, "a", "b"), line(2, "c")}
	if !sameLines(got, want) || one != "0041 10FFFF" {
		t.Errorf("answers follow a change: %#v, %q", got, one)
	}
	if again := slices.Collect(lines); !sameLines(again, want) {
		t.Errorf("lines follow a change of the octets: %#v", again)
	}
	for _, l := range got {
		clear(l.Fields[:cap(l.Fields)])
	}
	if !sameLines(other, want) || !sameLines(slices.Collect(lines), want) {
		t.Errorf("answers share memory: %#v", other)
	}

	first, _ := Sequence("0041 0042")
	second, _ := Sequence("0041 0042")
	clear(first)
	if !slices.Equal(second, []int{0x41, 0x42}) {
		t.Errorf("answers share memory: %x", second)
	}
}

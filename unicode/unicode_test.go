package unicode

import (
	"bytes"
	"math"
	"regexp"
	"slices"
	"strconv"
	"strings"
	"testing"

	"paronym/api"
	"paronym/field"
)

// tail is the nine fields that aren't looked at.
const tail = ";;;;N;;;;;"

// ln is a line, without its end.
func ln(point, name, gc, ccc, bidi, decomp string) string {
	return strings.Join([]string{point, name, gc, ccc, bidi, decomp}, ";") + tail
}

// letter is a line that is right, of a code point's text.
func letter(point string) string {
	return ln(point, "LETTER", "Lo", "0", "L", "")
}

// first and last are lines of a range.
func first(point string) string {
	return ln(point, "<X, First>", "Lo", "0", "L", "")
}

func last(point string) string {
	return ln(point, "<X, Last>", "Lo", "0", "L", "")
}

// file are lines, each with its end.
func file(lines ...string) []byte {
	if len(lines) == 0 {
		return nil
	}
	return []byte(strings.Join(lines, "\n") + "\n")
}

// row is one of a letter's lines.
func row(first, last int) api.Row {
	return api.Row{First: first, Last: last, Gc: "Lo", Bidi: "L"}
}

func sameRows(a, b []api.Row) bool {
	return slices.EqualFunc(a, b, func(x, y api.Row) bool {
		return x.First == y.First && x.Last == y.Last && x.Gc == y.Gc && x.Ccc == y.Ccc && x.Bidi == y.Bidi && slices.Equal(x.Decomp, y.Decomp)
	})
}

// gather goes through all rows.
func gather(table *Table) []api.Row {
	return slices.Collect(table.Rows())
}

// some is the table of a file that is right.
func some(t *testing.T, lines ...string) *Table {
	t.Helper()
	table, e, at := Parse(file(lines...))
	if e != api.OK || at != 0 || table == nil {
		t.Fatalf("%q: %v at %d", lines, e, at)
	}
	return table
}

func TestParseRightP4_1(t *testing.T) {
	for _, x := range []struct {
		b    string
		want []api.Row
	}{
		// no line, and none that has fields
		{"", nil}, {"\n", nil}, {"\n\r\n \t\n", nil}, {"# a\n#b;c", nil}, {"  # " + letter("0041"), nil},
		// the chapter's example
		{"00C5;A RING;Lu;0;L;0041 030A;;;;N;;;;00E5;", []api.Row{{First: 0xc5, Last: 0xc5, Gc: "Lu", Bidi: "L", Decomp: []int{0x41, 0x30a}}}},
		// blanks, tabs and remarks are no part of the fields
		{"# head\r\n\n 0041 ;\tA ; Lu ; 0 ; L ; ; ; ; ; N ; ; ; ; ;  # tail;;\r\n", []api.Row{{First: 0x41, Last: 0x41, Gc: "Lu", Bidi: "L"}}},
		// the nine others aren't looked at
		{"0041;A;Lu;0;L;;x;<y>;zz;Q;\xff;-1;0;110000;0041", []api.Row{{First: 0x41, Last: 0x41, Gc: "Lu", Bidi: "L"}}},
		// any name, an empty one among them
		{ln("0041", "", "Lu", "0", "L", ""), []api.Row{{First: 0x41, Last: 0x41, Gc: "Lu", Bidi: "L"}}},
		{ln("0041", "\x00\xff", "Lu", "0", "L", ""), []api.Row{{First: 0x41, Last: 0x41, Gc: "Lu", Bidi: "L"}}},
		// the least and the greatest code points, and surrogates
		{letter("0000") + "\n" + letter("D800") + "\n" + letter("FFFF") + "\n" + letter("10000") + "\n" + letter("100000") + "\n" + letter("10FFFF"),
			[]api.Row{row(0, 0), row(0xd800, 0xd800), row(0xffff, 0xffff), row(0x10000, 0x10000), row(0x100000, 0x100000), row(0x10ffff, 0x10ffff)}},
		// ranges
		{first("3400") + "\n" + last("4DB5"), []api.Row{row(0x3400, 0x4db5)}},
		{first("3400") + "\n" + last("3401") + "\n" + letter("3402"), []api.Row{row(0x3400, 0x3401), row(0x3402, 0x3402)}},
		{first("0000") + "\n\n# between\n" + last("10FFFF") + "\n", []api.Row{row(0, 0x10ffff)}},
		{first("0000") + "\n" + last("0009") + "\n" + first("000A") + "\n" + last("000F"), []api.Row{row(0, 9), row(10, 15)}},
		// their names need be no more than the ends, nor alike
		{ln("0001", "<, First>", "Lo", "0", "L", "") + "\n" + ln("0003", "<, Last>", "Lo", "0", "L", ""), []api.Row{row(1, 3)}},
		{ln("0001", "<A, First>", "Lo", "0", "L", "") + "\n" + ln("0003", "<B, Last>", "Lo", "0", "L", ""), []api.Row{row(1, 3)}},
		{ln("0001", "<<A>, Last>, First>", "Mn", "9", "NSM", "") + "\n" + ln("0003", "<A, First>, Last>", "Mn", "9", "NSM", ""), []api.Row{{First: 1, Last: 3, Gc: "Mn", Ccc: 9, Bidi: "NSM"}}},
		// names that are like any other
		{last("0041"), []api.Row{row(0x41, 0x41)}}, {last("0041") + "\n" + last("0043"), []api.Row{row(0x41, 0x41), row(0x43, 0x43)}},
		{first("0041") + "\n" + last("0043") + "\n" + last("0045"), []api.Row{row(0x41, 0x43), row(0x45, 0x45)}},
		{last("0041") + "\n" + first("0043") + "\n" + last("0045"), []api.Row{row(0x41, 0x41), row(0x43, 0x45)}},
		{ln("0041", "X, First>", "Lo", "0", "L", ""), []api.Row{row(0x41, 0x41)}}, {ln("0041", ", First>", "Lo", "0", "L", ""), []api.Row{row(0x41, 0x41)}},
		{ln("0041", "<X, First> ", "Lo", "0", "L", "") + "\n" + last("0042"), []api.Row{row(0x41, 0x42)}},
		{ln("0041", "<X, First>>", "Lo", "0", "L", ""), []api.Row{row(0x41, 0x41)}}, {ln("0041", "<X, First", "Lo", "0", "L", ""), []api.Row{row(0x41, 0x41)}},
		{ln("0041", "<X,First>", "Lo", "0", "L", ""), []api.Row{row(0x41, 0x41)}}, {ln("0041", "<X First>", "Lo", "0", "L", ""), []api.Row{row(0x41, 0x41)}},
		{ln("0041", "<X, first>", "Lo", "0", "L", ""), []api.Row{row(0x41, 0x41)}}, {ln("0041", "<X,\tFirst>", "Lo", "0", "L", ""), []api.Row{row(0x41, 0x41)}},
		{ln("0041", "<First>", "Lo", "0", "L", ""), []api.Row{row(0x41, 0x41)}}, {ln("0041", "<", "Lo", "0", "L", ""), []api.Row{row(0x41, 0x41)}},
		{ln("0041", "X <X, First>", "Lo", "0", "L", ""), []api.Row{row(0x41, 0x41)}}, {ln("0041", "<control>", "Lo", "0", "L", ""), []api.Row{row(0x41, 0x41)}},
	} {
		table, e, at := Parse([]byte(x.b))
		if e != api.OK || at != 0 || table == nil {
			t.Errorf("%q: %v at %d", x.b, e, at)
			continue
		}
		if got := gather(table); !sameRows(got, x.want) || table.Len() != len(x.want) {
			t.Errorf("%q: %v", x.b, got)
		}
	}
}

func TestParseFieldsP4_1(t *testing.T) {
	for _, x := range []struct {
		line string
		want api.Errno
	}{
		// how many fields
		{"0041", api.ErrField}, {"0041;A;Lu;0;L;", api.ErrField}, {"0041;A;Lu;0;L;;;;;N;;;;", api.ErrField}, {"0041;A;Lu;0;L;;;;;N;;;;;;", api.ErrField},
		{";;;;;;;;;;;;;", api.ErrField}, {";;;;;;;;;;;;;;", api.ErrHex}, {";;;;;;;;;;;;;;;", api.ErrField}, {";", api.ErrField}, {letter("0041") + letter("0042"), api.ErrField}, {"0041;A;Lu;0;L;#;;;;N;;;;;", api.ErrField},
		// no code point's text
		{letter(""), api.ErrHex}, {letter("41"), api.ErrHex}, {letter("004a"), api.ErrHex}, {letter("00041"), api.ErrHex}, {letter("110000"), api.ErrHex}, {letter("0010FFFF"), api.ErrHex},
		{letter("004G"), api.ErrHex}, {letter("U+0041"), api.ErrHex}, {letter("0041..0042"), api.ErrHex}, {letter("0041 0042"), api.ErrHex}, {letter("-041"), api.ErrHex},
		// general categories
		{ln("0041", "A", "Aa", "0", "L", ""), api.OK}, {ln("0041", "A", "Zz", "0", "L", ""), api.OK}, {ln("0041", "A", "Qx", "0", "L", ""), api.OK},
		{ln("0041", "A", "", "0", "L", ""), api.ErrValue}, {ln("0041", "A", "L", "0", "L", ""), api.ErrValue}, {ln("0041", "A", "u", "0", "L", ""), api.ErrValue},
		{ln("0041", "A", "Luu", "0", "L", ""), api.ErrValue}, {ln("0041", "A", "LU", "0", "L", ""), api.ErrValue}, {ln("0041", "A", "lu", "0", "L", ""), api.ErrValue}, {ln("0041", "A", "uL", "0", "L", ""), api.ErrValue},
		{ln("0041", "A", "L1", "0", "L", ""), api.ErrValue}, {ln("0041", "A", "1u", "0", "L", ""), api.ErrValue}, {ln("0041", "A", "@a", "0", "L", ""), api.ErrValue}, {ln("0041", "A", "[a", "0", "L", ""), api.ErrValue},
		{ln("0041", "A", "A`", "0", "L", ""), api.ErrValue}, {ln("0041", "A", "A{", "0", "L", ""), api.ErrValue}, {ln("0041", "A", "\u00c4", "0", "L", ""), api.ErrValue}, {ln("0041", "A", "\u00c4a", "0", "L", ""), api.ErrValue},
		{ln("0041", "A", "A\u00e4", "0", "L", ""), api.ErrValue}, {ln("0041", "A", "L\xff", "0", "L", ""), api.ErrValue}, {ln("0041", "A", "\xffu", "0", "L", ""), api.ErrValue}, {ln("0041", "A", "L u", "0", "L", ""), api.ErrValue},
		// combining classes
		{ln("0041", "A", "Lu", "0", "L", ""), api.OK}, {ln("0041", "A", "Lu", "1", "L", ""), api.OK}, {ln("0041", "A", "Lu", "10", "L", ""), api.OK}, {ln("0041", "A", "Lu", "254", "L", ""), api.OK},
		{ln("0041", "A", "Lu", "99", "L", ""), api.OK}, {ln("0041", "A", "Lu", "200", "L", ""), api.OK}, {ln("0041", "A", "Lu", "255", "L", ""), api.ErrValue}, {ln("0041", "A", "Lu", "256", "L", ""), api.ErrValue},
		{ln("0041", "A", "Lu", "260", "L", ""), api.ErrValue}, {ln("0041", "A", "Lu", "1000", "L", ""), api.ErrValue}, {ln("0041", "A", "Lu", "2540", "L", ""), api.ErrValue},
		{ln("0041", "A", "Lu", "", "L", ""), api.ErrValue}, {ln("0041", "A", "Lu", "00", "L", ""), api.ErrValue}, {ln("0041", "A", "Lu", "01", "L", ""), api.ErrValue}, {ln("0041", "A", "Lu", "000", "L", ""), api.ErrValue}, {ln("0041", "A", "Lu", "0254", "L", ""), api.ErrValue},
		{ln("0041", "A", "Lu", "+1", "L", ""), api.ErrValue}, {ln("0041", "A", "Lu", "-1", "L", ""), api.ErrValue}, {ln("0041", "A", "Lu", "-0", "L", ""), api.ErrValue}, {ln("0041", "A", "Lu", "+0", "L", ""), api.ErrValue},
		{ln("0041", "A", "Lu", "18446744073709551616", "L", ""), api.ErrValue}, {ln("0041", "A", "Lu", "18446744073709551617", "L", ""), api.ErrValue}, {ln("0041", "A", "Lu", strings.Repeat("1", 1000), "L", ""), api.ErrValue},
		{ln("0041", "A", "Lu", strings.Repeat("0", 1000), "L", ""), api.ErrValue}, {ln("0041", "A", "Lu", "4294967296", "L", ""), api.ErrValue}, {ln("0041", "A", "Lu", "1 0", "L", ""), api.ErrValue}, {ln("0041", "A", "Lu", "1_0", "L", ""), api.ErrValue},
		{ln("0041", "A", "Lu", "0x1", "L", ""), api.ErrValue}, {ln("0041", "A", "Lu", "A", "L", ""), api.ErrValue}, {ln("0041", "A", "Lu", "1:", "L", ""), api.ErrValue}, {ln("0041", "A", "Lu", "1/", "L", ""), api.ErrValue}, {ln("0041", "A", "Lu", "1.0", "L", ""), api.ErrValue},
		{ln("0041", "A", "Lu", "\u0661", "L", ""), api.ErrValue}, {ln("0041", "A", "Lu", "1\xff", "L", ""), api.ErrValue},
		// bidi classes
		{ln("0041", "A", "Lu", "0", "A", ""), api.OK}, {ln("0041", "A", "Lu", "0", "ZZ", ""), api.OK}, {ln("0041", "A", "Lu", "0", "NSM", ""), api.OK}, {ln("0041", "A", "Lu", "0", "AZQ", ""), api.OK},
		{ln("0041", "A", "Lu", "0", "", ""), api.ErrValue}, {ln("0041", "A", "Lu", "0", "ABCD", ""), api.ErrValue}, {ln("0041", "A", "Lu", "0", "l", ""), api.ErrValue}, {ln("0041", "A", "Lu", "0", "Al", ""), api.ErrValue}, {ln("0041", "A", "Lu", "0", "aL", ""), api.ErrValue},
		{ln("0041", "A", "Lu", "0", "NSm", ""), api.ErrValue}, {ln("0041", "A", "Lu", "0", "NsM", ""), api.ErrValue}, {ln("0041", "A", "Lu", "0", "A1", ""), api.ErrValue}, {ln("0041", "A", "Lu", "0", "@", ""), api.ErrValue}, {ln("0041", "A", "Lu", "0", "[", ""), api.ErrValue},
		{ln("0041", "A", "Lu", "0", "A B", ""), api.ErrValue}, {ln("0041", "A", "Lu", "0", "\u00c4", ""), api.ErrValue}, {ln("0041", "A", "Lu", "0", "A\xff", ""), api.ErrValue}, {ln("0041", "A", "Lu", "0", "\U00010400", ""), api.ErrValue},
		// decompositions
		{ln("0041", "A", "Lu", "0", "L", "0061"), api.OK}, {ln("0041", "A", "Lu", "0", "L", "0061 10FFFF"), api.OK}, {ln("0041", "A", "Lu", "0", "L", "0041 0041"), api.OK}, {ln("0041", "A", "Lu", "0", "L", "D800"), api.OK},
		{ln("0041", "A", "Lu", "0", "L", "0061 0062 0063"), api.ErrValue}, {ln("0041", "A", "Lu", "0", "L", "0061 0062 0063 0064"), api.ErrValue}, {ln("0041", "A", "Lu", "0", "L", "0061 0062 63"), api.ErrHex},
		{ln("0041", "A", "Lu", "0", "L", "61"), api.ErrHex}, {ln("0041", "A", "Lu", "0", "L", "0061  0062"), api.ErrHex}, {ln("0041", "A", "Lu", "0", "L", "0061\t0062"), api.ErrHex}, {ln("0041", "A", "Lu", "0", "L", "0061 110000"), api.ErrHex},
		{ln("0041", "A", "Lu", "0", "L", "006a"), api.ErrHex}, {ln("0041", "A", "Lu", "0", "L", "0061..0062"), api.ErrHex}, {ln("0041", "A", "Lu", "0", "L", "x"), api.ErrHex}, {ln("0041", "A", "Lu", "0", "L", "0061 <x>"), api.ErrHex}, {ln("0041", "A", "Lu", "0", "L", ">"), api.ErrHex},
		{ln("0041", "A", "Lu", "0", "L", "<compat> 0061"), api.OK}, {ln("0041", "A", "Lu", "0", "L", "<"), api.OK}, {ln("0041", "A", "Lu", "0", "L", "<x> 61"), api.OK}, {ln("0041", "A", "Lu", "0", "L", "<x> 0061 0062 0063"), api.OK}, {ln("0041", "A", "Lu", "0", "L", "  <x"), api.OK},
		// of one line the error that is named first
		{"41;A;lu;255;;61", api.ErrField}, {ln("41", "A", "lu", "255", "", "61"), api.ErrHex}, {ln("41", "A", "Lu", "0", "L", "0061 0062 0063"), api.ErrHex},
		{ln("0041", "A", "lu", "0", "L", "61"), api.ErrValue}, {ln("0041", "A", "Lu", "255", "L", "61"), api.ErrValue}, {ln("0041", "A", "Lu", "0", "l", "61"), api.ErrValue}, {ln("0041", "<A, First>", "Lu", "0", "L", "61"), api.ErrHex},
	} {
		// Alone, and behind other lines: the number is that of the line in the file.
		for _, ahead := range []string{"", "\n# a\n", letter("0000") + "\r\n\r\n", first("0000") + "\n" + last("0040") + "\n"} {
			at := 0
			if x.want != api.OK {
				at = strings.Count(ahead, "\n") + 1
			}
			for _, behind := range []string{"", "\n", "\nx", "\n" + letter("0042")} {
				if x.want == api.OK && behind == "\nx" {
					continue
				}
				table, e, got := Parse([]byte(ahead + x.line + behind))
				if e != x.want || got != at || (table == nil) != (x.want != api.OK) {
					t.Errorf("%q: %v at %d", ahead+x.line+behind, e, got)
				}
			}
		}
	}
}

func TestParseOverLinesP4_1(t *testing.T) {
	lone := ln("0050", "<X, First>", "Lo", "0", "L", "")
	for i, x := range []struct {
		lines []string
		want  api.Errno
		at    int
	}{
		// a code point that was told, or is below another
		{[]string{letter("0042"), letter("0042")}, api.ErrTwice, 2}, {[]string{letter("0042"), letter("0041")}, api.ErrTwice, 2}, {[]string{letter("0041"), "", letter("0043"), "#", letter("0042")}, api.ErrTwice, 5},
		{[]string{letter("0041"), letter("0042"), letter("0041")}, api.ErrTwice, 3}, {[]string{letter("10FFFF"), letter("0000")}, api.ErrTwice, 2}, {[]string{letter("0000"), letter("0000")}, api.ErrTwice, 2},
		{[]string{first("0041"), last("0045"), letter("0045")}, api.ErrTwice, 3}, {[]string{first("0041"), last("0045"), letter("0043")}, api.ErrTwice, 3}, {[]string{first("0041"), last("0045"), letter("0041")}, api.ErrTwice, 3},
		{[]string{first("0041"), last("0045"), letter("0040")}, api.ErrTwice, 3}, {[]string{first("0041"), last("0045"), letter("0046")}, api.OK, 0}, {[]string{letter("0041"), last("0041")}, api.ErrTwice, 2},
		// ahead of what the next line is
		{[]string{letter("0042"), first("0042"), last("0044")}, api.ErrTwice, 2}, {[]string{letter("0042"), first("0041")}, api.ErrTwice, 2}, {[]string{letter("0042"), first("0041"), "x"}, api.ErrTwice, 2},
		{[]string{first("0041"), last("0043"), first("0042"), last("0044")}, api.ErrTwice, 3}, {[]string{first("0041"), last("0043"), first("0043"), letter("41")}, api.ErrTwice, 3},
		// a line's own errors ahead of it
		{[]string{letter("0042"), ln("0042", "A", "lo", "0", "L", "")}, api.ErrValue, 2}, {[]string{letter("0042"), ln("0042", "A", "Lo", "0", "L", "42")}, api.ErrHex, 2}, {[]string{letter("0042"), ln("0042", "A", "Lo", "0", "L", "0042 0042 0042")}, api.ErrValue, 2},
		// the first line that is wrong
		{[]string{letter("0042"), letter("0042"), "x"}, api.ErrTwice, 2}, {[]string{letter("0042"), "x", letter("0042")}, api.ErrField, 2}, {[]string{"x", first("0042")}, api.ErrField, 1},
		// a range at the file's end
		{[]string{first("0041")}, api.ErrRange, 1}, {[]string{"#", first("0041"), "", "# end", " "}, api.ErrRange, 2}, {[]string{letter("0040"), first("0041")}, api.ErrRange, 2}, {[]string{first("0041"), last("0042"), first("0043")}, api.ErrRange, 3}, {[]string{first("10FFFF")}, api.ErrRange, 1},
		// whose second line isn't one
		{[]string{first("0041"), letter("0042")}, api.ErrRange, 1}, {[]string{first("0041"), "", letter("0042"), last("0043")}, api.ErrRange, 1}, {[]string{letter("0040"), "", first("0041"), "", letter("0042")}, api.ErrRange, 3},
		{[]string{first("0041"), ln("0042", "X, Last>", "Lo", "0", "L", "")}, api.ErrRange, 1}, {[]string{first("0041"), ln("0042", "<X, Last", "Lo", "0", "L", "")}, api.ErrRange, 1}, {[]string{first("0041"), ln("0042", "<X,Last>", "Lo", "0", "L", "")}, api.ErrRange, 1},
		{[]string{first("0041"), ln("0042", "<X, last>", "Lo", "0", "L", "")}, api.ErrRange, 1}, {[]string{first("0041"), ln("0042", "<X Last>", "Lo", "0", "L", "")}, api.ErrRange, 1}, {[]string{first("0041"), ln("0042", ", Last>", "Lo", "0", "L", "")}, api.ErrRange, 1}, {[]string{first("0041"), ln("0042", "", "Lo", "0", "L", "")}, api.ErrRange, 1},
		// two first ones: the next one is the second line of none
		{[]string{first("0041"), first("0042")}, api.ErrRange, 1}, {[]string{first("0041"), first("0042"), last("0043")}, api.ErrRange, 1}, {[]string{first("0041"), last("0042"), first("0043"), first("0044"), last("0045")}, api.ErrRange, 3},
		// that differs
		{[]string{first("0041"), ln("0043", "<X, Last>", "Ll", "0", "L", "")}, api.ErrRange, 1}, {[]string{first("0041"), ln("0043", "<X, Last>", "Mo", "0", "L", "")}, api.ErrRange, 1}, {[]string{first("0041"), ln("0043", "<X, Last>", "Lo", "1", "L", "")}, api.ErrRange, 1},
		{[]string{first("0041"), ln("0043", "<X, Last>", "Lo", "0", "R", "")}, api.ErrRange, 1}, {[]string{first("0041"), ln("0043", "<X, Last>", "Lo", "0", "LL", "")}, api.ErrRange, 1},
		// with a decomposition, of the first, the second, and both
		{[]string{ln("0041", "<X, First>", "Lo", "0", "L", "0061"), last("0043")}, api.ErrRange, 1}, {[]string{first("0041"), ln("0043", "<X, Last>", "Lo", "0", "L", "0061")}, api.ErrRange, 1}, {[]string{ln("0041", "<X, First>", "Lo", "0", "L", "0061 0062"), ln("0043", "<X, Last>", "Lo", "0", "L", "0061 0062")}, api.ErrRange, 1},
		{[]string{ln("0041", "<X, First>", "Lo", "0", "L", "<a> 0061"), last("0043")}, api.ErrRange, 1}, {[]string{first("0041"), ln("0043", "<X, Last>", "Lo", "0", "L", "<")}, api.ErrRange, 1}, {[]string{ln("0041", "<X, First>", "Lo", "0", "L", "<a>"), ln("0043", "<X, Last>", "Lo", "0", "L", "<a>")}, api.ErrRange, 1},
		{[]string{ln("0041", "<X, First>", "Lo", "0", "L", "0061")}, api.ErrRange, 1}, {[]string{ln("0041", "<X, First>", "Lo", "0", "L", "0061"), letter("0042")}, api.ErrRange, 1},
		// whose second code point isn't above the first
		{[]string{first("0041"), last("0041")}, api.ErrRange, 1}, {[]string{first("0041"), last("0040")}, api.ErrRange, 1}, {[]string{letter("0030"), first("0041"), last("0030")}, api.ErrRange, 2}, {[]string{letter("0030"), first("0041"), last("0000")}, api.ErrRange, 2},
		{[]string{letter("0030"), first("0041"), letter("0030")}, api.ErrRange, 2}, {[]string{letter("0030"), first("0041"), letter("0041")}, api.ErrRange, 2},
		// the next line's own errors, ahead of the range's
		{[]string{lone, "0051;<X, Last>"}, api.ErrField, 2}, {[]string{lone, "", "#", last("51")}, api.ErrHex, 4}, {[]string{lone, ln("0051", "X", "lo", "0", "L", "")}, api.ErrValue, 2}, {[]string{lone, ln("0051", "X", "Lo", "255", "L", "")}, api.ErrValue, 2},
		{[]string{lone, ln("0051", "X", "Lo", "0", "", "")}, api.ErrValue, 2}, {[]string{lone, ln("0051", "X", "Lo", "0", "L", "61")}, api.ErrHex, 2}, {[]string{lone, ln("0050", "<X, Last>", "Lo", "0", "L", "0061 0062 0063")}, api.ErrValue, 2}, {[]string{lone, ln("51", "<X, First>", "Lo", "0", "L", "")}, api.ErrHex, 2},
		{[]string{ln("0050", "<X, First>", "Lo", "0", "L", "0061"), "x"}, api.ErrField, 2},
		// the line behind the next one is not looked at
		{[]string{lone, letter("0051"), "x"}, api.ErrRange, 1},
	} {
		table, e, at := Parse(file(x.lines...))
		if e != x.want || at != x.at || (table == nil) != (x.want != api.OK) {
			t.Errorf("%d: %q: %v at %d", i, x.lines, e, at)
		}
	}
}

// gcForm, cccForm and bidiForm are the chapter's words once more.
var (
	gcForm   = regexp.MustCompile(`^[A-Z][a-z]$`)
	cccForm  = regexp.MustCompile(`^(0|[1-9][0-9]*)$`)
	bidiForm = regexp.MustCompile(`^[A-Z]{1,3}$`)
)

// slowOwn tells a line's own errors, ahead of ErrTwice.
func slowOwn(f []string) api.Errno {
	if len(f) != 15 {
		return api.ErrField
	}
	if _, e := field.Point(f[0]); e != api.OK {
		return api.ErrHex
	}
	ccc, err := strconv.Atoi(f[3])
	if !gcForm.MatchString(f[2]) || !cccForm.MatchString(f[3]) || err != nil || ccc > 254 || !bidiForm.MatchString(f[4]) {
		return api.ErrValue
	}
	if strings.HasPrefix(f[5], "<") {
		return api.OK
	}
	s, e := field.Sequence(f[5])
	if e != api.OK {
		return api.ErrHex
	}
	if len(s) > 2 {
		return api.ErrValue
	}
	return api.OK
}

// slowRow is the row of a line that is right.
func slowRow(f []string) api.Row {
	c, _ := field.Point(f[0])
	ccc, _ := strconv.Atoi(f[3])
	r := api.Row{First: c, Last: c, Gc: f[2], Ccc: ccc, Bidi: f[4]}
	if !strings.HasPrefix(f[5], "<") {
		r.Decomp, _ = field.Sequence(f[5])
	}
	return r
}

func slowNamed(f []string, end string) bool {
	return strings.HasPrefix(f[1], "<") && strings.HasSuffix(f[1], end)
}

// slowParse goes line by line, and looks at the next one where the chapter does.
func slowParse(b []byte) ([]api.Row, api.Errno, int) {
	lines := slices.Collect(field.Lines(b))
	var rows []api.Row
	told := -1
	for i := 0; i < len(lines); i++ {
		f := lines[i].Fields
		if e := slowOwn(f); e != api.OK {
			return nil, e, lines[i].Number
		}
		r := slowRow(f)
		if r.First <= told {
			return nil, api.ErrTwice, lines[i].Number
		}
		if slowNamed(f, ", First>") {
			if i+1 == len(lines) {
				return nil, api.ErrRange, lines[i].Number
			}
			g := lines[i+1].Fields
			if e := slowOwn(g); e != api.OK {
				return nil, e, lines[i+1].Number
			}
			s := slowRow(g)
			if !slowNamed(g, ", Last>") || !slices.Equal(f[2:5], g[2:5]) || f[5]+g[5] != "" || s.First <= r.First {
				return nil, api.ErrRange, lines[i].Number
			}
			r.Last = s.First
			i++
		}
		told = r.Last
		rows = append(rows, r)
	}
	return rows, api.OK, 0
}

func TestAllShortFilesP4_1(t *testing.T) {
	pool := []string{
		"", "# none", "x", letter("0002"), letter("4"), letter("0004"), first("0001"), first("0003"), last("0002"), last("0004"), last("0005"),
		ln("0005", "<X, Last>", "Lu", "0", "L", ""), ln("0005", "<X, Last>", "Lo", "7", "L", ""), ln("0005", "<X, Last>", "Lo", "0", "AL", ""), ln("0005", "<X, Last>", "Lo", "0", "L", "0041"), ln("0003", "<X, First>", "Lo", "0", "L", "<b>"),
		ln("0003", "<X, First>", "lo", "0", "L", ""), ln("0006", "A", "Lo", "0", "L", "0041 0042"), ln("0001", "A", "Lo", "0", "L", "0041 0042 0043"), ln("0006", "A", "Lo", "0", "L", "41"),
	}
	try := func(lines ...string) {
		b := file(lines...)
		rows, e, at := slowParse(b)
		table, gotE, gotAt := Parse(b)
		if gotE != e || gotAt != at || (table == nil) != (e != api.OK) || !sameRows(gather(table), rows) {
			t.Fatalf("%q: %v at %d, not %v at %d: %v", lines, gotE, gotAt, e, at, gather(table))
		}
	}
	for _, a := range pool {
		try(a)
		for _, b := range pool {
			try(a, b)
			for _, c := range pool {
				try(a, b, c)
				for _, d := range pool {
					try(a, b, c, d)
				}
			}
		}
	}
}

// wrongNumbers are no code points; some would be one if they were cut to 32 or 16 bits.
var wrongNumbers = []int{
	-1, -2, -0x41, math.MinInt, math.MinInt32, math.MinInt + 0x41,
	0x110000, 0x110001, math.MaxInt32, 1<<32 + 0x41, 1<<40 + 0x41, math.MaxInt,
}

// mixed is a table of rows of all kinds.
func mixed(t *testing.T) *Table {
	t.Helper()
	return some(t, "# mixed",
		ln("0041", "A", "Lu", "0", "L", ""), ln("0042", "B", "Ll", "0", "R", "0043"), ln("00C5", "RING", "Lu", "0", "L", "0041 030A"), ln("0300", "GRAVE", "Mn", "230", "NSM", ""),
		ln("3400", "<CJK, First>", "Lo", "9", "AL", ""), "", ln("4DB5", "<CJK, Last>", "Lo", "9", "AL", ""),
		ln("FB01", "FI", "Ll", "0", "L", "<compat> 0066 0069"), ln("10FFFE", "END", "Co", "254", "BN", "10FFFF 0000"))
}

var mixedRows = []api.Row{
	{First: 0x41, Last: 0x41, Gc: "Lu", Bidi: "L"}, {First: 0x42, Last: 0x42, Gc: "Ll", Bidi: "R", Decomp: []int{0x43}}, {First: 0xc5, Last: 0xc5, Gc: "Lu", Bidi: "L", Decomp: []int{0x41, 0x30a}}, {First: 0x300, Last: 0x300, Gc: "Mn", Ccc: 230, Bidi: "NSM"},
	{First: 0x3400, Last: 0x4db5, Gc: "Lo", Ccc: 9, Bidi: "AL"}, {First: 0xfb01, Last: 0xfb01, Gc: "Ll", Bidi: "L"}, {First: 0x10fffe, Last: 0x10fffe, Gc: "Co", Ccc: 254, Bidi: "BN", Decomp: []int{0x10ffff, 0}},
}

// rowOf is the row of a code point, found by looking at all of them.
func rowOf(rows []api.Row, c int) api.Row {
	for _, r := range rows {
		if r.First <= c && c <= r.Last {
			return r
		}
	}
	return api.Row{}
}

// asked is what a table tells of a code point.
func asked(table *Table, c int) api.Row {
	return api.Row{Gc: table.Gc(c), Ccc: table.Ccc(c), Bidi: table.Bidi(c), Decomp: table.Decomp(c)}
}

func checkAsked(t *testing.T, table *Table, rows []api.Row, c int) {
	t.Helper()
	want := rowOf(rows, c)
	want.First, want.Last = 0, 0
	if got := asked(table, c); !sameRows([]api.Row{got}, []api.Row{want}) {
		t.Fatalf("%x: %v, not %v", c, got, want)
	}
}

func TestAskedP4_2(t *testing.T) {
	table := mixed(t)
	for c := -1; c <= api.MaxPoint+1; c++ {
		checkAsked(t, table, mixedRows, c)
	}
	for _, c := range wrongNumbers {
		checkAsked(t, table, nil, c)
	}
	// The edges once more, with all told outright.
	for _, x := range []struct {
		c        int
		gc, bidi string
		ccc      int
		decomp   []int
	}{
		{0, "", "", 0, nil}, {0x40, "", "", 0, nil}, {0x41, "Lu", "L", 0, nil}, {0x42, "Ll", "R", 0, []int{0x43}}, {0x43, "", "", 0, nil}, {0xc5, "Lu", "L", 0, []int{0x41, 0x30a}}, {0x300, "Mn", "NSM", 230, nil},
		{0x33ff, "", "", 0, nil}, {0x3400, "Lo", "AL", 9, nil}, {0x3fff, "Lo", "AL", 9, nil}, {0x4db5, "Lo", "AL", 9, nil}, {0x4db6, "", "", 0, nil}, {0xfb01, "Ll", "L", 0, nil}, {0x10fffd, "", "", 0, nil}, {0x10fffe, "Co", "BN", 254, []int{0x10ffff, 0}}, {0x10ffff, "", "", 0, nil},
	} {
		if table.Gc(x.c) != x.gc || table.Bidi(x.c) != x.bidi || table.Ccc(x.c) != x.ccc || !slices.Equal(table.Decomp(x.c), x.decomp) {
			t.Errorf("%x: %v", x.c, asked(table, x.c))
		}
	}
	// One range that has all, and a table that has none.
	for _, x := range []struct {
		lines []string
		rows  []api.Row
	}{
		{[]string{first("0000"), last("10FFFF")}, []api.Row{row(0, 0x10ffff)}}, {nil, nil}, {[]string{"# none"}, nil},
	} {
		table := some(t, x.lines...)
		for _, c := range append([]int{0, 1, 0x41, 0xd800, 0x10fffe, 0x10ffff}, wrongNumbers...) {
			checkAsked(t, table, x.rows, c)
		}
	}
}

func TestRowsP4_2(t *testing.T) {
	table := mixed(t)
	if got := gather(table); !sameRows(got, mixedRows) || table.Len() != len(mixedRows) {
		t.Fatalf("%v, %d", got, table.Len())
	}
	rows := table.Rows()
	for n := range len(mixedRows) + 2 {
		var got []api.Row
		for r := range rows {
			if len(got) == n {
				break
			}
			got = append(got, r)
		}
		if !sameRows(got, mixedRows[:min(n, len(mixedRows))]) {
			t.Fatalf("left off at %d: %v", n, got)
		}
	}
	if got := slices.Collect(rows); !sameRows(got, mixedRows) {
		t.Fatalf("asked again: %v", got)
	}
	count := 0
	for range rows {
		for range rows {
			count++
		}
	}
	if count != len(mixedRows)*len(mixedRows) {
		t.Errorf("one within the other: %d", count)
	}
	for range some(t).Rows() {
		t.Error("rows of no line")
	}
	if some(t).Len() != 0 {
		t.Error("how many of no line")
	}
}

// TestManyP4_2 has a line of each code point, so that a table that is slow to build or to ask would be noticed.
func TestManyP4_2(t *testing.T) {
	var b bytes.Buffer
	for c := range api.MaxPoint + 1 {
		b.WriteString(ln(field.Text([]int{c}), "X", "L"+string(rune('a'+c%26)), strconv.Itoa(c%255), "L", field.Text([]int{api.MaxPoint - c})) + "\n")
	}
	table, e, at := Parse(b.Bytes())
	if e != api.OK || at != 0 || table.Len() != api.MaxPoint+1 {
		t.Fatalf("%v at %d", e, at)
	}
	for c := range api.MaxPoint + 1 {
		if d := table.Decomp(c); table.Gc(c) != "L"+string(rune('a'+c%26)) || table.Ccc(c) != c%255 || len(d) != 1 || d[0] != api.MaxPoint-c {
			t.Fatalf("%x: %v", c, asked(table, c))
		}
	}
	next := 0
	for r := range table.Rows() {
		if r.First != next || r.Last != next {
			t.Fatalf("%v, not %x", r, next)
		}
		next++
	}
}

func TestNilP4_3(t *testing.T) {
	var none *Table
	for _, c := range append([]int{0, 0x41, api.MaxPoint}, wrongNumbers...) {
		if none.Gc(c) != "" || none.Ccc(c) != 0 || none.Bidi(c) != "" || len(none.Decomp(c)) != 0 {
			t.Errorf("%x: %v", c, asked(none, c))
		}
	}
	if none.Len() != 0 || none.Rows() == nil {
		t.Error("how many, or no iterator")
	}
	for r := range none.Rows() {
		t.Error(r)
	}
}

func TestNewMemoryP4_3(t *testing.T) {
	table := mixed(t)
	for range 2 {
		d := table.Decomp(0xc5)
		if !slices.Equal(d, []int{0x41, 0x30a}) {
			t.Fatalf("Decomp: %x", d)
		}
		other := table.Decomp(0xc5)
		d[0], d[1] = -1, -1
		if !slices.Equal(other, []int{0x41, 0x30a}) {
			t.Fatalf("two answers: %x", other)
		}
		_ = append(d, -1)[:cap(d)]
		for r := range table.Rows() {
			for i := range r.Decomp {
				r.Decomp[i] = -1
			}
			r.Decomp = append(r.Decomp, -1)
		}
		if got := gather(table); !sameRows(got, mixedRows) {
			t.Fatalf("Rows: %v", got)
		}
		got := gather(table)
		got[0], got[2].Decomp[0] = api.Row{}, -1
	}
}

func TestHandedInP4_3(t *testing.T) {
	text := append(file(ln("0041", "A", "Lu", "7", "NSM", "0061 0062")), file(first("0050"), last("0052"))...)
	// Room behind the octets, which is another's.
	room := append(slices.Clone(text), "0060;B;Lu;0;L;;;;;N;;;;;\n"...)
	kept := slices.Clone(room)
	table, e, at := Parse(room[:len(text)])
	if e != api.OK || at != 0 {
		t.Fatalf("%v at %d", e, at)
	}
	if !bytes.Equal(room, kept) {
		t.Fatalf("changed: %q", room)
	}
	want := []api.Row{{First: 0x41, Last: 0x41, Gc: "Lu", Ccc: 7, Bidi: "NSM", Decomp: []int{0x61, 0x62}}, row(0x50, 0x52)}
	rows := table.Rows()
	for i := range room {
		room[i] = 'x'
	}
	if got := slices.Collect(rows); !sameRows(got, want) || !sameRows(gather(table), want) {
		t.Fatalf("kept: %v", got)
	}
	for c := 0x40; c <= 0x60; c++ {
		checkAsked(t, table, want, c)
	}
	wrong := file(letter("0042"), letter("0041"))
	kept = slices.Clone(wrong)
	if _, e, at := Parse(wrong); e != api.ErrTwice || at != 2 || !bytes.Equal(wrong, kept) {
		t.Errorf("beside an error: %v at %d: %q", e, at, wrong)
	}
}

// FuzzParse holds any octets against the slow way.
func FuzzParse(f *testing.F) {
	f.Add(file(letter("0041"), first("0050"), last("0052")))
	f.Add(file(first("0050"), letter("0052")))
	f.Add([]byte("00C5;A RING;Lu;0;L;0041 030A;;;;N;;;;00E5;\r\n# x"))
	f.Fuzz(func(t *testing.T, b []byte) {
		rows, e, at := slowParse(b)
		table, gotE, gotAt := Parse(b)
		if gotE != e || gotAt != at || (table == nil) != (e != api.OK) || !sameRows(gather(table), rows) {
			t.Fatalf("%q: %v at %d, not %v at %d", b, gotE, gotAt, e, at)
		}
	})
}

package utf

import (
	"bytes"
	"math"
	"slices"
	"strings"
	"testing"

	"paronym/api"
)

// edges are the numbers around which the answers change.
var edges = []int{
	0, 1, 0x7e, 0x7f, 0x80, 0x81, 0x7fe, 0x7ff, 0x800, 0x801,
	0xd7fe, 0xd7ff, 0xe000, 0xe001, 0xfffc, 0xfffd, 0xfffe, 0xffff,
	0x10000, 0x10001, 0x10fffe, 0x10ffff,
}

// wrongNumbers are no scalars; some would be one if they were cut to 32, 16 or 8 bits.
var wrongNumbers = []int{
	-1, -2, -0x41, math.MinInt, math.MinInt32, math.MinInt + 0x41,
	0xd800, 0xd801, 0xdbff, 0xdc00, 0xdffe, 0xdfff,
	0x110000, 0x110001, math.MaxInt32, 1<<32 + 0x41, 1<<40 + 0x41, math.MaxInt,
}

// octets are a scalar's octets, worked out from the chapter's own words.
func octets(c int) []byte {
	low := func(shift int) byte { return byte(0x80 | c>>shift&0x3f) }
	switch {
	case c < 0x80:
		return []byte{byte(c)}
	case c < 0x800:
		return []byte{byte(0xc0 | c>>6), low(0)}
	case c < 0x10000:
		return []byte{byte(0xe0 | c>>12), low(6), low(0)}
	}
	return []byte{byte(0xf0 | c>>18), low(12), low(6), low(0)}
}

// scalars are all of them, rising.
func scalars() []int {
	var s []int
	for c := range 0xd800 {
		s = append(s, c)
	}
	for c := 0xe000; c <= 0x10ffff; c++ {
		s = append(s, c)
	}
	return s
}

// point is a scalar with its place.
type point struct{ at, c int }

// gather goes through all points.
func gather(b []byte) []point {
	var l []point
	for at, c := range Points(b) {
		l = append(l, point{at, c})
	}
	return l
}

func TestScalarP1_1(t *testing.T) {
	for _, c := range edges {
		if !Scalar(c) {
			t.Errorf("%x isn't told a scalar", c)
		}
	}
	for _, c := range wrongNumbers {
		if Scalar(c) {
			t.Errorf("%x is told a scalar", c)
		}
	}
	count := 0
	for c := -0x1000; c < 0x120000; c++ {
		if Scalar(c) {
			count++
		}
	}
	if count != 0x110000-0x800 {
		t.Errorf("%x scalars", count)
	}
}

func TestEncodeP1_1(t *testing.T) {
	for _, c := range scalars() {
		if b, ok := Encode([]int{c}); !ok || !bytes.Equal(b, octets(c)) {
			t.Fatalf("%x: % x, %v", c, b, ok)
		}
	}
	if b, ok := Encode([]int{0x20ac}); !ok || string(b) != "\xe2\x82\xac" {
		t.Errorf("20AC: % x, %v", b, ok)
	}
	if b, ok := Encode([]int{0x61, 0xe4, 0x20ac, 0x10348}); !ok || string(b) != "a\u00e4\u20ac\U00010348" {
		t.Errorf("several: % x, %v", b, ok)
	}
	for _, s := range [][]int{nil, {}} {
		if b, ok := Encode(s); !ok || len(b) != 0 {
			t.Errorf("none: % x, %v", b, ok)
		}
	}
}

func TestEncodeWrongP1_1(t *testing.T) {
	for _, c := range wrongNumbers {
		for _, s := range [][]int{{c}, {c, 0x61}, {0x61, c}, {0x61, c, 0x62}, {c, c}} {
			if b, ok := Encode(s); ok || b != nil {
				t.Errorf("%x: % x, %v", s, b, ok)
			}
		}
	}
}

func TestDecodeP1_1(t *testing.T) {
	for _, c := range scalars() {
		b := octets(c)
		if s, e, n := Decode(b); e != api.OK || n != len(b) || !slices.Equal(s, []int{c}) {
			t.Fatalf("% x: %x, %v, %d", b, s, e, n)
		}
	}
	if s, e, n := Decode([]byte("a\u00e4\u20ac\U00010348")); e != api.OK || n != 10 || !slices.Equal(s, []int{0x61, 0xe4, 0x20ac, 0x10348}) {
		t.Errorf("several: %x, %v, %d", s, e, n)
	}
	for _, b := range [][]byte{nil, {}} {
		if s, e, n := Decode(b); e != api.OK || n != 0 || len(s) != 0 {
			t.Errorf("none: %x, %v, %d", s, e, n)
		}
	}
}

// wrongOctets are octets, and the place at which they are wrong.
var wrongOctets = []struct {
	b  string
	at int
}{
	// cut short, at the end or by what follows
	{"\xc2", 0}, {"\xdf", 0}, {"a\xc3", 1}, {"\xe2", 0}, {"\xe2\x82", 0}, {"ab\xe2\x82", 2},
	{"\xf0", 0}, {"\xf0\x90", 0}, {"\xf0\x90\x80", 0}, {"\xc3\xa4\xf4\x8f\xbf", 2},
	{"\xc3a", 0}, {"\xe2\x82a", 0}, {"\xe2a\x82", 0}, {"\xf0\x90\x80a", 0}, {"\xe2\x82\xe2\x82\xac", 0},
	{"\xe2\x82\xac\xe2\x82", 3}, {"\xc3\xc3\xa4", 0},
	// longer than the scalar's own
	{"\xc0\x80", 0}, {"\xc1\xbf", 0}, {"\xe0\x80\x80", 0}, {"\xe0\x81\x81", 0}, {"\xe0\x9f\xbf", 0},
	{"\xf0\x80\x80\x80", 0}, {"\xf0\x82\x82\xac", 0}, {"\xf0\x8f\xbf\xbf", 0}, {"abc\xc1\x81", 3},
	// following octets alone
	{"\x80", 0}, {"\xbf", 0}, {"ab\x80", 2}, {"\xc3\xa4\xa4", 2}, {"\xe2\x82\xac\x80a", 3}, {"\xf4\x8f\xbf\xbf\xbf", 4},
	// code points that are no scalars, and beyond them
	{"\xed\xa0\x80", 0}, {"\xed\xbf\xbf", 0}, {"a\xed\xae\x80\xed\xb0\x80", 1},
	{"\xf4\x90\x80\x80", 0}, {"\xf5\x80\x80\x80", 0}, {"\xf7\xbf\xbf\xbf", 0},
	{"\xf8\x88\x80\x80\x80", 0}, {"\xfc\x84\x80\x80\x80\x80", 0},
	{"\xfe", 0}, {"\xff", 0}, {"\xc3\xa4\xff", 2}, {"\xef\xbf\xbd\xff", 3},
	// the first of several places
	{"\xff\x80", 0}, {"a\x80b\xff", 1},
}

func TestDecodeWrongP1_1(t *testing.T) {
	for _, x := range wrongOctets {
		if s, e, at := Decode([]byte(x.b)); e != api.ErrUTF || at != x.at || s != nil {
			t.Errorf("% x: %x, %v, %d", x.b, s, e, at)
		}
	}
}

// slowDecode finds scalars by looking octets up among those of all scalars.
func slowDecode(known map[string]int, b []byte) ([]int, api.Errno, int) {
	var s []int
	for at := 0; at < len(b); {
		size := 0
		for n := 1; n <= 4 && at+n <= len(b); n++ {
			if c, ok := known[string(b[at:at+n])]; ok {
				s, size = append(s, c), n
				break
			}
		}
		if size == 0 {
			return nil, api.ErrUTF, at
		}
		at += size
	}
	return s, api.OK, len(b)
}

func TestDecodeAgainstAllScalarsP1_1(t *testing.T) {
	known := map[string]int{}
	for _, c := range scalars() {
		known[string(octets(c))] = c
	}
	some := []byte{0x00, 0x41, 0x7f, 0x80, 0x8f, 0x90, 0x9f, 0xa0, 0xbf, 0xc0, 0xc1, 0xc2, 0xdf, 0xe0, 0xec, 0xed, 0xee, 0xef, 0xf0, 0xf3, 0xf4, 0xf5, 0xff}
	var try func(b []byte)
	try = func(b []byte) {
		s, e, n := Decode(b)
		ws, we, wn := slowDecode(known, b)
		if !slices.Equal(s, ws) || e != we || n != wn {
			t.Fatalf("% x: %x, %v, %d, not %x, %v, %d", b, s, e, n, ws, we, wn)
		}
		if len(b) == 4 {
			return
		}
		for _, o := range some {
			try(append(b[:len(b):len(b)], o))
		}
	}
	try(nil)
	for i := range 0x10000 {
		b := []byte{byte(i >> 8), byte(i)}
		s, e, n := Decode(b)
		if ws, we, wn := slowDecode(known, b); !slices.Equal(s, ws) || e != we || n != wn {
			t.Fatalf("% x: %x, %v, %d", b, s, e, n)
		}
	}
}

func TestPointsP1_2(t *testing.T) {
	got := gather([]byte("a\u00e4\u20ac\U00010348\ufffdz\x00"))
	want := []point{{0, 0x61}, {1, 0xe4}, {3, 0x20ac}, {6, 0x10348}, {10, 0xfffd}, {13, 0x7a}, {14, 0}}
	if !slices.Equal(got, want) {
		t.Errorf("%x", got)
	}
	for _, b := range [][]byte{nil, {}, {0xff}, {0x80, 0x61}, {0xc0, 0x80}} {
		if got := gather(b); len(got) != 0 {
			t.Errorf("% x: %x", b, got)
		}
	}
}

func TestPointsUpToTheErrorP1_2(t *testing.T) {
	for _, x := range wrongOctets {
		var got []int
		next := 0
		for at, c := range Points([]byte(x.b)) {
			if at != next {
				t.Errorf("% x: place %d, not %d", x.b, at, next)
			}
			next += len(octets(c))
			got = append(got, c)
		}
		want, e, _ := Decode([]byte(x.b[:x.at]))
		if e != api.OK || next != x.at || !slices.Equal(got, want) {
			t.Errorf("% x: %x up to %d", x.b, got, next)
		}
	}
}

func TestPointsLeftOffAndAgainP1_2(t *testing.T) {
	points := Points([]byte("a\u00e4\u20acb\xff"))
	want := []point{{0, 0x61}, {1, 0xe4}, {3, 0x20ac}, {6, 0x62}}
	for most := range len(want) + 1 {
		var got []point
		calls := 0
		points(func(at, c int) bool {
			calls++
			got = append(got, point{at, c})
			return len(got) < most
		})
		if n := max(most, 1); calls != n || !slices.Equal(got, want[:n]) {
			t.Errorf("left off at %d: %d calls, %x", most, calls, got)
		}
	}
	pairs := 0
	for range points {
		for range points {
			pairs++
		}
	}
	if pairs != len(want)*len(want) {
		t.Errorf("one within the other: %d", pairs)
	}
}

func TestLowerP1_3(t *testing.T) {
	for c := -0x200; c < 0x200; c++ {
		want := c
		if strings.ContainsRune("ABCDEFGHIJKLMNOPQRSTUVWXYZ", rune(c)) && c > 0 {
			want = c + 0x20
		}
		if got := Lower(c); got != want {
			t.Errorf("%x: %x", c, got)
		}
	}
	for _, c := range slices.Concat(wrongNumbers, []int{0xc4, 0x391, 0x212a, 0xff21, 0x10400, 0x141, 1<<32 + 'A', 256 + 'A'}) {
		if got := Lower(c); got != c {
			t.Errorf("%x: %x", c, got)
		}
	}
}

func TestAsciiP1_3(t *testing.T) {
	for _, s := range [][]int{nil, {}, {0}, {0x7f}, {0x61, 0, 0x7f, 0x20}} {
		if !Ascii(s) {
			t.Errorf("%x isn't told ASCII", s)
		}
	}
	for _, c := range slices.Concat(wrongNumbers, []int{0x80, 0xff, 0x17f, 1<<32 + 0x61, 0x10ffff}) {
		for _, s := range [][]int{{c}, {c, 0x61}, {0x61, c}, {0x61, c, 0x61}} {
			if Ascii(s) {
				t.Errorf("%x is told ASCII", s)
			}
		}
	}
}

func TestCompareP1_3(t *testing.T) {
	// Rising: each is ahead of all that follow it.
	rising := [][]int{
		nil, {math.MinInt}, {-1}, {-1, 5}, {0}, {0, 0}, {0, 1}, {1}, {1, -1}, {1, 0}, {1, 0, 0}, {1, 9},
		{2}, {0xd800}, {0x10ffff}, {0x110000, 1}, {math.MaxInt}, {math.MaxInt, math.MinInt},
	}
	for i, a := range rising {
		for j, b := range rising {
			want := 0
			if i < j {
				want = -1
			} else if i > j {
				want = 1
			}
			if got := Compare(a, slices.Clone(b)); got != want {
				t.Errorf("%x, %x: %d", a, b, got)
			}
		}
	}
	if Compare(nil, []int{}) != 0 || Compare([]int{}, nil) != 0 {
		t.Error("nil and empty are one")
	}
}

func TestThereAndBackP1_4(t *testing.T) {
	all := scalars()
	b, ok := Encode(all)
	if !ok {
		t.Fatal("not encoded")
	}
	s, e, n := Decode(b)
	if e != api.OK || n != len(b) || !slices.Equal(s, all) {
		t.Fatalf("%v, %d", e, n)
	}
	if again, ok := Encode(s); !ok || !bytes.Equal(again, b) {
		t.Error("the octets aren't the same again")
	}
	at := 0
	for place, c := range Points(b) {
		if place != at {
			t.Fatalf("%x: place %d, not %d", c, place, at)
		}
		at += len(octets(c))
	}
	if at != len(b) {
		t.Errorf("points up to %d of %d", at, len(b))
	}
}

func TestHandedInP1_4(t *testing.T) {
	roomy := append(make([]int, 0, 8), 0x61, 0x20ac, 0x10348)
	spare := roomy[:cap(roomy)]
	wasInts := slices.Clone(spare)
	b := append(make([]byte, 0, 8), "a\u20ac"...)
	wasOctets := slices.Clone(b[:cap(b)])
	points := Points(b)

	octetsOne, _ := Encode(roomy)
	octetsTwo, _ := Encode(roomy)
	Ascii(roomy)
	Compare(roomy, roomy[:1])
	one, _, _ := Decode(b)
	two, _, _ := Decode(b)
	gather(b)
	if !slices.Equal(spare, wasInts) || !bytes.Equal(b[:cap(b)], wasOctets) {
		t.Error("what was handed in has changed")
	}

	// Neither the other answer nor the argument may follow a change, nor the argument's change reach an answer.
	clear(octetsOne)
	clear(one)
	clear(spare)
	clear(b[:cap(b)])
	if string(octetsTwo) != "a\u20ac\U00010348" || !slices.Equal(two, []int{0x61, 0x20ac}) {
		t.Errorf("answers share memory: % x, %x", octetsTwo, two)
	}
	for range 2 {
		var got []point
		for at, c := range points {
			got = append(got, point{at, c})
		}
		if !slices.Equal(got, []point{{0, 0x61}, {1, 0x20ac}}) {
			t.Errorf("points follow a change of the octets: %x", got)
		}
	}
}

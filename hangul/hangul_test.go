package hangul

import (
	"math"
	"slices"
	"testing"
)

// wrongNumbers are neither syllables nor parts; some would be one if they were cut to 32 or 16 bits.
var wrongNumbers = []int{
	-1, -2, -0x1100, -0xac00, -0x5400, math.MinInt, math.MinInt + 1, math.MinInt32,
	math.MinInt + 0x1100, math.MinInt + 0x1161, math.MinInt + 0x11a8, math.MinInt + 0xac00, math.MinInt + 0xac01,
	0x110000, 0x110000 + 0xac00, math.MaxInt32, math.MaxInt, math.MaxInt - 0xac00,
	1<<16 + 0x1100, 1<<16 + 0x1161, 1<<16 + 0x11a8, 1<<16 + 0xac00, 1<<16 + 0xd7a3,
	1<<32 + 0x1100, 1<<32 + 0x1161, 1<<32 + 0x11a8, 1<<32 + 0xac00, 1<<32 + 0xd7a3,
	1<<40 + 0x1100, 1<<40 + 0x1161, 1<<40 + 0x11a8, 1<<40 + 0xac00, 1<<40 + 0xd7a3,
}

// edges are the numbers around which the answers change.
var edges = []int{
	0, 1, 0x41, 0x10fe, 0x10ff, 0x1100, 0x1101, 0x1111, 0x1112, 0x1113, 0x1114,
	0x115f, 0x1160, 0x1161, 0x1162, 0x1174, 0x1175, 0x1176, 0x1177,
	0x11a6, 0x11a7, 0x11a8, 0x11a9, 0x11c1, 0x11c2, 0x11c3, 0x11c4, 0x11ff, 0x3131, 0xa97c,
	0xabfe, 0xabff, 0xac00, 0xac01, 0xac1b, 0xac1c, 0xac1d, 0xae4b, 0xae4c, 0xae4d,
	0xd558, 0xd55c, 0xd787, 0xd788, 0xd789, 0xd7a2, 0xd7a3, 0xd7a4, 0xd7a5, 0xd7b0, 0xd7cb, 0xd800, 0xffff, 0x10ffff,
}

// told are syllables that are known from elsewhere, with their parts.
var told = []struct {
	c     int
	parts []int
}{
	{0xac00, []int{0x1100, 0x1161}}, {0xac01, []int{0x1100, 0x1161, 0x11a8}}, {0xac04, []int{0x1100, 0x1161, 0x11ab}}, {0xac1b, []int{0x1100, 0x1161, 0x11c2}},
	{0xac1c, []int{0x1100, 0x1162}}, {0xac1d, []int{0x1100, 0x1162, 0x11a8}}, {0xae30, []int{0x1100, 0x1175}}, {0xae4b, []int{0x1100, 0x1175, 0x11c2}},
	{0xae4c, []int{0x1101, 0x1161}}, {0xb098, []int{0x1102, 0x1161}}, {0xae00, []int{0x1100, 0x1173, 0x11af}}, {0xd4db, []int{0x1111, 0x1171, 0x11b6}},
	{0xd558, []int{0x1112, 0x1161}}, {0xd55c, []int{0x1112, 0x1161, 0x11ab}}, {0xd788, []int{0x1112, 0x1175}}, {0xd789, []int{0x1112, 0x1175, 0x11a8}}, {0xd7a3, []int{0x1112, 0x1175, 0x11c2}},
}

// syllable is a syllable's parts, and its open syllable.
type syllable struct {
	parts []int
	open  int
}

// counted are all syllables, found by going through the parts and counting, without the chapter's arithmetic.
func counted() map[int]syllable {
	all := map[int]syllable{}
	c := 0xac00
	for l := 0x1100; l <= 0x1112; l++ {
		for v := 0x1161; v <= 0x1175; v++ {
			open := c
			all[c] = syllable{[]int{l, v}, open}
			c++
			for t := 0x11a8; t <= 0x11c2; t++ {
				all[c] = syllable{[]int{l, v, t}, open}
				c++
			}
		}
	}
	return all
}

func TestCountedIsTheChaptersRange(t *testing.T) {
	all := counted()
	_, first := all[0xac00]
	_, last := all[0xd7a3]
	if len(all) != 0xd7a3-0xac00+1 || !first || !last {
		t.Errorf("%d syllables", len(all))
	}
}

func TestKnownSyllablesP8_1(t *testing.T) {
	for _, x := range told {
		if got := Apart(x.c); !Is(x.c) || !slices.Equal(got, x.parts) {
			t.Errorf("%x: %x", x.c, got)
		}
	}
}

func TestAllCodePointsP8_1(t *testing.T) {
	all := counted()
	for c := -0x20000; c < 0x130000; c++ {
		want, is := all[c]
		if got := Apart(c); Is(c) != is || !slices.Equal(got, want.parts) {
			t.Fatalf("%x: %v, %x, not %x", c, Is(c), got, want.parts)
		}
	}
}

func TestOthersP8_1(t *testing.T) {
	for _, c := range append([]int{0xabff, 0xd7a4, 0x1100, 0x1161, 0x11a8, 0x3131, 0xd7b0, 0xd7cb, 0xa960, 0x10ac00}, wrongNumbers...) {
		if Is(c) || len(Apart(c)) != 0 {
			t.Errorf("%x: %v, %x", c, Is(c), Apart(c))
		}
	}
}

func TestApartIsNewMemoryP8_1(t *testing.T) {
	for _, x := range told {
		spoilt := Apart(x.c)
		for i := range spoilt[:cap(spoilt)] {
			spoilt[:cap(spoilt)][i] = -1
		}
		if got := Apart(x.c); !slices.Equal(got, x.parts) {
			t.Errorf("%x: %x", x.c, got)
		}
	}
}

// pair is two code points.
type pair struct{ a, b int }

// making are all pairs that make a syllable, with it.
func making() map[pair]int {
	all := counted()
	makes := map[pair]int{}
	for c, s := range all {
		if len(s.parts) == 2 {
			makes[pair{s.parts[0], s.parts[1]}] = c
		} else {
			makes[pair{s.open, s.parts[2]}] = c
		}
	}
	return makes
}

func TestTogetherP8_2(t *testing.T) {
	for _, x := range []struct {
		a, b, c int
		ok      bool
	}{
		{0x1100, 0x1161, 0xac00, true}, {0x1100, 0x1162, 0xac1c, true}, {0x1101, 0x1161, 0xae4c, true}, {0x1112, 0x1161, 0xd558, true}, {0x1112, 0x1175, 0xd788, true}, {0x1100, 0x1175, 0xae30, true},
		{0xac00, 0x11a8, 0xac01, true}, {0xac00, 0x11c2, 0xac1b, true}, {0xac1c, 0x11a8, 0xac1d, true}, {0xd558, 0x11ab, 0xd55c, true}, {0xd788, 0x11a8, 0xd789, true}, {0xd788, 0x11c2, 0xd7a3, true},
		// just beside the kinds
		{0x10ff, 0x1161, 0, false}, {0x1113, 0x1161, 0, false}, {0x1100, 0x1160, 0, false}, {0x1100, 0x1176, 0, false}, {0x1112, 0x1176, 0, false}, {0x1113, 0x1160, 0, false},
		{0xac00, 0x11a7, 0, false}, {0xac00, 0x11c3, 0, false}, {0xd788, 0x11c3, 0, false}, {0xabff, 0x11a8, 0, false}, {0xd7a4, 0x11a8, 0, false}, {0xabe4, 0x11a8, 0, false},
		// syllables that aren't open
		{0xac01, 0x11a8, 0, false}, {0xac1b, 0x11a8, 0, false}, {0xd7a3, 0x11c2, 0, false}, {0xd55c, 0x11a8, 0, false}, {0xac01, 0x11a7, 0, false},
		// other kinds, or the kinds the other way round
		{0x1161, 0x1100, 0, false}, {0x11a8, 0xac00, 0, false}, {0x1100, 0x1100, 0, false}, {0x1161, 0x1161, 0, false}, {0x11a8, 0x11a8, 0, false}, {0xac00, 0xac00, 0, false},
		{0x1100, 0x11a8, 0, false}, {0x1161, 0x11a8, 0, false}, {0xac00, 0x1161, 0, false}, {0xac00, 0x1100, 0, false}, {0x1100, 0xac00, 0, false}, {0xac00, 0, 0, false}, {0, 0, 0, false},
	} {
		if c, ok := Together(x.a, x.b); c != x.c || ok != x.ok {
			t.Errorf("%x, %x: %x, %v", x.a, x.b, c, ok)
		}
	}
}

func TestAllPairsP8_2(t *testing.T) {
	makes := making()
	if len(makes) != 0xd7a3-0xac00+1 {
		t.Fatalf("%d pairs", len(makes))
	}
	// All numbers from some way ahead of the parts to some way behind them, and so for the syllables.
	var parts, all []int
	for c := 0x10f0; c < 0x1210; c++ {
		parts = append(parts, c)
	}
	all = append(all, parts...)
	for c := 0xabe0; c < 0xd7d0; c++ {
		all = append(all, c)
	}
	beside := slices.Concat(parts, edges, wrongNumbers)
	for _, a := range slices.Concat(all, edges, wrongNumbers) {
		for _, b := range beside {
			checkPair(t, makes, a, b)
		}
	}
	for _, a := range beside {
		for _, b := range all {
			checkPair(t, makes, a, b)
		}
	}
}

// checkPair holds what two numbers make against all pairs that make a syllable.
func checkPair(t *testing.T, makes map[pair]int, a, b int) {
	t.Helper()
	want, is := makes[pair{a, b}]
	if c, ok := Together(a, b); c != want || ok != is {
		t.Fatalf("%x, %x: %x, %v, not %x, %v", a, b, c, ok, want, is)
	}
}

func TestWrongNumbersP8_2(t *testing.T) {
	for _, x := range wrongNumbers {
		for _, y := range slices.Concat(edges, wrongNumbers) {
			for _, p := range []pair{{x, y}, {y, x}} {
				if c, ok := Together(p.a, p.b); c != 0 || ok {
					t.Errorf("%x, %x: %x, %v", p.a, p.b, c, ok)
				}
			}
		}
	}
}

// join puts parts together, from the left.
func join(parts []int) (int, bool) {
	c := parts[0]
	for _, p := range parts[1:] {
		next, ok := Together(c, p)
		if !ok {
			return 0, false
		}
		c = next
	}
	return c, true
}

func TestThereAndBackP8_3(t *testing.T) {
	for c := 0xac00; c <= 0xd7a3; c++ {
		parts := Apart(c)
		if len(parts) < 2 || len(parts) > 3 {
			t.Fatalf("%x: %x", c, parts)
		}
		if got, ok := join(parts); got != c || !ok {
			t.Fatalf("%x: %x: %x, %v", c, parts, got, ok)
		}
	}
}

func TestBackAndThereP8_3(t *testing.T) {
	for l := 0x1100; l <= 0x1112; l++ {
		for v := 0x1161; v <= 0x1175; v++ {
			open, ok := Together(l, v)
			if !ok || !slices.Equal(Apart(open), []int{l, v}) {
				t.Fatalf("%x, %x: %x, %v", l, v, open, ok)
			}
			for end := 0x11a8; end <= 0x11c2; end++ {
				c, ok := Together(open, end)
				if !ok || !slices.Equal(Apart(c), []int{l, v, end}) {
					t.Fatalf("%x, %x, %x: %x, %v", l, v, end, c, ok)
				}
			}
		}
	}
}

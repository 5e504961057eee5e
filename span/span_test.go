package span

import (
	"math"
	"slices"
	"strconv"
	"testing"

	"paronym/api"
)

// wrongNumbers are no code points; some would be one if they were cut to 32 or 16 bits.
var wrongNumbers = []int{
	-1, -2, -0x41, math.MinInt, math.MinInt32, math.MinInt + 0x41,
	0x110000, 0x110001, math.MaxInt32, 1<<32 + 0x41, 1<<40 + 0x41, math.MaxInt,
}

func sp(first, last int, value string) Span {
	return Span{First: first, Last: last, Value: value}
}

// some is a table that is right.
func some(t *testing.T, l ...Span) *Table {
	t.Helper()
	table, e := New(l...)
	if e != api.OK || table == nil {
		t.Fatalf("%x: %v", l, e)
	}
	return table
}

// gather goes through all spans.
func gather(table *Table) []Span {
	return slices.Collect(table.All())
}

// letters is the table that most tests ask.
func letters(t *testing.T) *Table {
	t.Helper()
	return some(t, sp(0x61, 0x7a, "L"), sp(0x30, 0x39, "N"), sp(0x5f, 0x5f, "N"), sp(0x41, 0x5a, "L"), sp(0x10fffe, 0x10ffff, "X"))
}

// inOrder are the spans of letters.
var inOrder = []Span{sp(0x30, 0x39, "N"), sp(0x41, 0x5a, "L"), sp(0x5f, 0x5f, "N"), sp(0x61, 0x7a, "L"), sp(0x10fffe, 0x10ffff, "X")}

func TestNewP3_1(t *testing.T) {
	for _, x := range []struct {
		l, want []Span
		e       api.Errno
	}{
		{nil, nil, api.OK}, {[]Span{}, nil, api.OK},
		{[]Span{sp(0x41, 0x5a, "L")}, []Span{sp(0x41, 0x5a, "L")}, api.OK},
		{[]Span{sp(5, 5, "a")}, []Span{sp(5, 5, "a")}, api.OK},
		{[]Span{sp(0, 0x10ffff, "a")}, []Span{sp(0, 0x10ffff, "a")}, api.OK},
		{[]Span{sp(0, 0, "a"), sp(0x10ffff, 0x10ffff, "b")}, []Span{sp(0, 0, "a"), sp(0x10ffff, 0x10ffff, "b")}, api.OK},
		{[]Span{sp(0xd800, 0xdfff, " \x00\xff")}, []Span{sp(0xd800, 0xdfff, " \x00\xff")}, api.OK},
		// spans that touch stay apart, of whatever values
		{[]Span{sp(5, 6, "a"), sp(3, 4, "a"), sp(7, 7, "b")}, []Span{sp(3, 4, "a"), sp(5, 6, "a"), sp(7, 7, "b")}, api.OK},
		// no code points
		{[]Span{sp(-1, 4, "a")}, nil, api.ErrRange}, {[]Span{sp(5, 0x110000, "a")}, nil, api.ErrRange}, {[]Span{sp(-2, -1, "a")}, nil, api.ErrRange},
		{[]Span{sp(0x110000, 0x110001, "a")}, nil, api.ErrRange}, {[]Span{sp(-1, 0x110000, "a")}, nil, api.ErrRange}, {[]Span{sp(5, -1, "a")}, nil, api.ErrRange},
		{[]Span{sp(0x110000, 5, "a")}, nil, api.ErrRange}, {[]Span{sp(-1, -1, "a")}, nil, api.ErrRange}, {[]Span{sp(0x110000, 0x110000, "a")}, nil, api.ErrRange},
		{[]Span{sp(5, 4, "a")}, nil, api.ErrRange}, {[]Span{sp(0x10ffff, 0, "a")}, nil, api.ErrRange}, {[]Span{sp(1, 0, "a")}, nil, api.ErrRange},
		{[]Span{sp(5, 6, "")}, nil, api.ErrValue}, {[]Span{{}}, nil, api.ErrValue},
		// a code point in common
		{[]Span{sp(5, 6, "a"), sp(6, 7, "b")}, nil, api.ErrTwice}, {[]Span{sp(5, 6, "a"), sp(4, 5, "b")}, nil, api.ErrTwice},
		{[]Span{sp(5, 6, "a"), sp(5, 6, "a")}, nil, api.ErrTwice}, {[]Span{sp(5, 5, "a"), sp(5, 5, "b")}, nil, api.ErrTwice},
		{[]Span{sp(4, 8, "a"), sp(6, 6, "b")}, nil, api.ErrTwice}, {[]Span{sp(6, 6, "a"), sp(4, 8, "b")}, nil, api.ErrTwice},
		{[]Span{sp(0, 9, "a"), sp(20, 29, "a"), sp(9, 20, "a")}, nil, api.ErrTwice}, {[]Span{sp(0, 0x10ffff, "a"), sp(0x10ffff, 0x10ffff, "b")}, nil, api.ErrTwice},
		{[]Span{sp(0, 100, "a"), sp(1, 2, "b"), sp(50, 60, "c")}, nil, api.ErrTwice},
		// of one span the error that is named first
		{[]Span{sp(5, 4, "")}, nil, api.ErrRange}, {[]Span{sp(-1, 4, "")}, nil, api.ErrRange}, {[]Span{sp(5, 0x110000, "")}, nil, api.ErrRange},
		{[]Span{sp(5, 9, "a"), sp(9, 5, "a")}, nil, api.ErrRange}, {[]Span{sp(5, 9, "a"), sp(6, 0x110000, "a")}, nil, api.ErrRange}, {[]Span{sp(5, 9, "a"), sp(6, 6, "")}, nil, api.ErrValue},
		// of several spans the first one's
		{[]Span{sp(5, 5, ""), sp(5, 4, "a")}, nil, api.ErrValue}, {[]Span{sp(5, 4, "a"), sp(5, 5, "")}, nil, api.ErrRange},
		{[]Span{sp(5, 5, "a"), sp(5, 5, "a"), sp(5, 4, "a")}, nil, api.ErrTwice}, {[]Span{sp(5, 5, "a"), sp(5, 5, "a"), sp(7, 7, "")}, nil, api.ErrTwice},
		{[]Span{sp(5, 5, "a"), sp(5, 4, "a"), sp(5, 5, "a")}, nil, api.ErrRange}, {[]Span{sp(5, 5, "a"), sp(7, 7, ""), sp(5, 5, "a")}, nil, api.ErrValue},
		{[]Span{sp(5, 5, "a"), sp(6, 6, "a"), sp(8, 7, "a"), sp(5, 5, "a")}, nil, api.ErrRange},
	} {
		table, e := New(x.l...)
		if e != x.e || (table == nil) != (e != api.OK) || !slices.Equal(gather(table), x.want) {
			t.Errorf("%x: %v, %x", x.l, e, gather(table))
		}
	}
	for _, c := range wrongNumbers {
		for _, s := range []Span{sp(c, c, "a"), sp(c, 5, "a"), sp(5, c, "a"), sp(0, c, ""), sp(c, 0x10ffff, "")} {
			if table, e := New(s); table != nil || e != api.ErrRange {
				t.Errorf("%x: %v", s, e)
			}
		}
	}
}

func TestAddP3_1(t *testing.T) {
	for _, x := range []struct {
		s  Span
		at int
		e  api.Errno
	}{
		// ahead of all, between two, behind all; touching on neither, either, both sides
		{sp(0, 0, "x"), 0, api.OK}, {sp(0, 0x2f, "x"), 0, api.OK}, {sp(0x2f, 0x2f, "N"), 0, api.OK}, {sp(0x3b, 0x3c, "x"), 1, api.OK}, {sp(0x3a, 0x3a, "N"), 1, api.OK},
		{sp(0x3a, 0x40, "x"), 1, api.OK}, {sp(0x5b, 0x5e, "L"), 2, api.OK}, {sp(0x60, 0x60, "L"), 3, api.OK}, {sp(0x7b, 0x10fffd, "x"), 4, api.OK}, {sp(0x100, 0x200, "x"), 4, api.OK},
		// a code point in common: at an end, within, around, the same, over several
		{sp(0x20, 0x30, "x"), 0, api.ErrTwice}, {sp(0x39, 0x40, "x"), 0, api.ErrTwice}, {sp(0x30, 0x30, "x"), 0, api.ErrTwice}, {sp(0x39, 0x39, "N"), 0, api.ErrTwice},
		{sp(0x32, 0x34, "N"), 0, api.ErrTwice}, {sp(0x2f, 0x3a, "x"), 0, api.ErrTwice}, {sp(0x30, 0x39, "N"), 0, api.ErrTwice}, {sp(0x5f, 0x5f, "x"), 0, api.ErrTwice},
		{sp(0x5e, 0x60, "x"), 0, api.ErrTwice}, {sp(0, 0x10ffff, "x"), 0, api.ErrTwice}, {sp(0x3a, 0x60, "x"), 0, api.ErrTwice}, {sp(0x10ffff, 0x10ffff, "x"), 0, api.ErrTwice},
		{sp(0x5b, 0x61, "x"), 0, api.ErrTwice}, {sp(0x7a, 0x10fffe, "x"), 0, api.ErrTwice}, {sp(0x3a, 0x41, "x"), 0, api.ErrTwice},
		// wrong by itself; of several errors the one that is named first
		{sp(-1, 4, "x"), 0, api.ErrRange}, {sp(5, 4, "x"), 0, api.ErrRange}, {sp(0x100, 0x110000, "x"), 0, api.ErrRange}, {sp(0x30, 0x110000, "x"), 0, api.ErrRange}, {sp(-1, 0x30, "x"), 0, api.ErrRange},
		{sp(0x31, 0x30, ""), 0, api.ErrRange}, {sp(0x39, 0x30, "N"), 0, api.ErrRange}, {sp(5, 5, ""), 0, api.ErrValue}, {sp(0x30, 0x39, ""), 0, api.ErrValue},
	} {
		table := letters(t)
		other, e := table.Add(x.s)
		if e != x.e || (other == nil) != (e != api.OK) {
			t.Errorf("%x: %v", x.s, e)
		}
		if !slices.Equal(gather(table), inOrder) || table.Len() != len(inOrder) || table.Value(x.s.First) == "x" {
			t.Errorf("%x: the table has changed: %x", x.s, gather(table))
		}
		if e == api.OK && !slices.Equal(gather(other), slices.Insert(slices.Clone(inOrder), x.at, x.s)) {
			t.Errorf("%x: %x", x.s, gather(other))
		}
	}
}

// Tables of many lengths, since two that share memory may be told from others only where there is room behind the spans.
func TestAddSeveralOfOneTableP3_1(t *testing.T) {
	type pair struct {
		table *Table
		want  []Span
	}
	var pairs []pair
	add := func(x pair, at int, s Span) pair {
		table, e := x.table.Add(s)
		if e != api.OK {
			t.Fatalf("%x: %v", s, e)
		}
		y := pair{table, slices.Insert(slices.Clone(x.want), at, s)}
		pairs = append(pairs, y)
		return y
	}
	x := pair{some(t), nil}
	for n := range 40 {
		add(x, 0, sp(0, 9, "ahead"))
		add(x, n/2, sp(10*(n/2)+10, 10*(n/2)+10, "between"))
		add(x, n, sp(10*n+11, 10*n+19, "behind"))
		add(x, n, sp(10*n+11, 10*n+19, "other"))
		x = add(x, n, sp(10*n+11, 10*n+19, "kept"))
	}
	for _, x := range pairs {
		if got := gather(x.table); !slices.Equal(got, x.want) {
			t.Fatalf("%v, not %v", got, x.want)
		}
	}
}

func TestValueAndHasP3_2(t *testing.T) {
	table := letters(t)
	for c := -0x100; c < 0x110100; c++ {
		want := ""
		for _, s := range inOrder {
			if s.First <= c && c <= s.Last {
				want = s.Value
			}
		}
		if got := table.Value(c); got != want {
			t.Fatalf("%x: %q, not %q", c, got, want)
		}
		for _, value := range []string{"", "L", "N", "X", "l", "LN"} {
			if got := table.Has(c, value); got != (value == want && want != "") {
				t.Fatalf("%x, %q: %v", c, value, got)
			}
		}
	}
	all := some(t, sp(0, 0x10ffff, "a"))
	for _, c := range wrongNumbers {
		if all.Value(c) != "" || all.Has(c, "a") || all.Has(c, "") || table.Value(c) != "" || table.Has(c, "") {
			t.Errorf("%x has a value", c)
		}
	}
	if all.Value(0) != "a" || all.Value(0x10ffff) != "a" || !all.Has(0, "a") || !all.Has(0x10ffff, "a") || all.Has(0, "") {
		t.Error("a code point at an end has no value")
	}
}

func TestAllAndLenP3_2(t *testing.T) {
	table := letters(t)
	if got := gather(table); !slices.Equal(got, inOrder) || table.Len() != len(inOrder) {
		t.Errorf("%d: %x", table.Len(), got)
	}
	empty := some(t)
	if empty.Len() != 0 || len(gather(empty)) != 0 || empty.Value(0) != "" || empty.Has(0, "") {
		t.Error("an empty table has spans")
	}
	all := table.All()
	for most := range len(inOrder) + 1 {
		var got []Span
		calls := 0
		all(func(s Span) bool {
			calls++
			got = append(got, s)
			return len(got) < most
		})
		if n := max(most, 1); calls != n || !slices.Equal(got, inOrder[:n]) {
			t.Errorf("left off at %d: %d calls, %x", most, calls, got)
		}
	}
	pairs := 0
	for range all {
		for range all {
			pairs++
		}
	}
	if pairs != len(inOrder)*len(inOrder) {
		t.Errorf("one within the other: %d", pairs)
	}
}

func TestPointsP3_2(t *testing.T) {
	table := some(t, sp(9, 11, "a"), sp(0, 0, "a"), sp(5, 6, "b"), sp(2, 4, "a"), sp(7, 8, "a"), sp(0x10ffff, 0x10ffff, "a"), sp(0x10fffd, 0x10fffe, "c"))
	for value, want := range map[string][]int{
		"a": {0, 2, 3, 4, 7, 8, 9, 10, 11, 0x10ffff}, "b": {5, 6}, "c": {0x10fffd, 0x10fffe}, "": nil, "d": nil, "A": nil, "ab": nil, " ": nil,
	} {
		points := table.Points(value)
		for range 2 {
			if got := slices.Collect(points); !slices.Equal(got, want) {
				t.Errorf("%q: %x", value, got)
			}
		}
		for most := range len(want) {
			var got []int
			calls := 0
			points(func(c int) bool {
				calls++
				got = append(got, c)
				return len(got) <= most
			})
			if calls != most+1 || !slices.Equal(got, want[:most+1]) {
				t.Errorf("%q, left off at %d: %d calls, %x", value, most, calls, got)
			}
		}
	}
	pairs := 0
	for range table.Points("b") {
		for range table.Points("a") {
			pairs++
		}
	}
	if pairs != 20 {
		t.Errorf("one within the other: %d", pairs)
	}
	next := 0
	for c := range some(t, sp(0, 0x10ffff, "a")).Points("a") {
		if c != next {
			t.Fatalf("%x, not %x", c, next)
		}
		next++
	}
	if next != 0x110000 {
		t.Errorf("%x code points of all", next)
	}
}

// slow is a table as a value of each code point, and how many spans gave them.
type slow struct {
	values map[int]string
	spans  int
}

// add tells the error by the chapter's words, code point by code point.
func (m *slow) add(s Span) api.Errno {
	for _, c := range []int{s.First, s.Last} {
		if c < 0 || c > 0x10ffff {
			return api.ErrRange
		}
	}
	if s.Last < s.First {
		return api.ErrRange
	}
	if s.Value == "" {
		return api.ErrValue
	}
	for c := s.First; c <= s.Last; c++ {
		if m.values[c] != "" {
			return api.ErrTwice
		}
	}
	for c := s.First; c <= s.Last; c++ {
		m.values[c] = s.Value
	}
	m.spans++
	return api.OK
}

// sameAs tells whether a table has the slow one's values.
func (m *slow) sameAs(table *Table) bool {
	for c := -2; c < 7; c++ {
		if table.Value(c) != m.values[c] {
			return false
		}
	}
	rising := slices.IsSortedFunc(gather(table), func(a, b Span) int { return a.First - b.First })
	return rising && table.Len() == m.spans && len(gather(table)) == m.spans
}

func TestAllShortTablesP3_1(t *testing.T) {
	var every []Span
	for first := -1; first < 5; first++ {
		for last := -1; last < 5; last++ {
			every = append(every, sp(first, last, "a"), sp(first, last, strconv.Itoa(first+1)))
		}
		every = append(every, sp(first, first, ""), sp(first, 0x110000, "a"))
	}
	var l []Span
	var try func()
	try = func() {
		model, want := &slow{values: map[int]string{}}, api.OK
		var added *Table
		for _, s := range l {
			if want = model.add(s); want != api.OK {
				break
			}
			added, _ = added.Add(s)
			if added == nil {
				t.Fatalf("%x: Add", l)
			}
		}
		table, e := New(l...)
		if e != want || (table == nil) != (e != api.OK) || e == api.OK && !model.sameAs(table) {
			t.Fatalf("%x: New: %v, not %v", l, e, want)
		}
		if want != api.OK {
			if table, e := added.Add(l[len(l)-1]); table != nil || e != want {
				t.Fatalf("%x: Add: %v, not %v", l, e, want)
			}
		}
		if !model.sameAs(added) {
			t.Fatalf("%x: Add: %x", l, gather(added))
		}
		if len(l) == 3 || want != api.OK {
			return
		}
		for _, s := range every {
			l = append(l, s)
			try()
			l = l[:len(l)-1]
		}
	}
	try()
}

func TestEveryOrderP3_3(t *testing.T) {
	l := slices.Clone(inOrder)
	orders := 0
	var try func(int)
	try = func(done int) {
		if done < len(l) {
			for i := done; i < len(l); i++ {
				l[done], l[i] = l[i], l[done]
				try(done + 1)
				l[done], l[i] = l[i], l[done]
			}
			return
		}
		orders++
		var added *Table
		for _, s := range l {
			var e api.Errno
			if added, e = added.Add(s); e != api.OK {
				t.Fatalf("%x: %v", l, e)
			}
		}
		if got := gather(added); !slices.Equal(got, inOrder) || !slices.Equal(gather(some(t, l...)), inOrder) {
			t.Fatalf("%x: %x", l, got)
		}
	}
	try(0)
	if orders != 120 {
		t.Fatalf("%d orders", orders)
	}
}

func TestManySpansP3_3(t *testing.T) {
	var rising []Span
	for c := range 0x110000 {
		rising = append(rising, sp(c, c, string(rune('a'+c%3))))
	}
	falling := slices.Clone(rising)
	slices.Reverse(falling)
	table := some(t, falling...)
	if !slices.Equal(gather(table), rising) || table.Len() != len(rising) {
		t.Fatal("spans aren't in order")
	}
	for c := range 0x110000 {
		if table.Value(c) != rising[c].Value {
			t.Fatalf("%x: %q", c, table.Value(c))
		}
	}
	if _, e := table.Add(sp(0x1234, 0x1234, "a")); e != api.ErrTwice {
		t.Errorf("%v", e)
	}
	if table, e := New(append(falling, falling[0])...); table != nil || e != api.ErrTwice {
		t.Errorf("%v", e)
	}
}

func TestNilTableP3_3(t *testing.T) {
	var none *Table
	if none.Len() != 0 || len(gather(none)) != 0 || len(slices.Collect(none.Points("a"))) != 0 || len(slices.Collect(none.Points(""))) != 0 {
		t.Error("a nil table has spans")
	}
	for _, c := range append([]int{0, 1, 0x41, 0x10ffff}, wrongNumbers...) {
		if none.Value(c) != "" || none.Has(c, "a") || none.Has(c, "") {
			t.Errorf("%x: a nil table has a value", c)
		}
	}
	for s, want := range map[Span]api.Errno{
		sp(-1, 4, "a"): api.ErrRange, sp(5, 4, ""): api.ErrRange, sp(5, 0x110000, "a"): api.ErrRange, sp(5, 5, ""): api.ErrValue,
	} {
		if table, e := none.Add(s); table != nil || e != want {
			t.Errorf("%x: %v", s, e)
		}
	}
	one, e := none.Add(sp(1, 2, "a"))
	if e != api.OK || !slices.Equal(gather(one), []Span{sp(1, 2, "a")}) || one.Len() != 1 || one.Value(2) != "a" || none.Value(1) != "" || none.Len() != 0 {
		t.Errorf("%v, %x", e, gather(one))
	}
}

func TestHandedInP3_3(t *testing.T) {
	roomy := append(make([]Span, 0, 8), sp(5, 6, "b"), sp(1, 2, "a"), sp(3, 4, "c"))
	was := slices.Clone(roomy[:cap(roomy)])
	want := []Span{sp(1, 2, "a"), sp(3, 4, "c"), sp(5, 6, "b")}

	table := some(t, roomy...)
	all, points := table.All(), table.Points("a")
	other, _ := table.Add(sp(7, 8, "a"))
	New(append(roomy[:3:3], sp(5, 4, "a"))...)
	if !slices.Equal(roomy[:cap(roomy)], was) {
		t.Errorf("what was handed in has changed: %x", roomy[:cap(roomy)])
	}

	clear(roomy[:cap(roomy)])
	if !slices.Equal(gather(table), want) || table.Value(5) != "b" || !slices.Equal(slices.Collect(all), want) || !slices.Equal(slices.Collect(points), []int{1, 2}) {
		t.Errorf("the table follows a change of the slice: %x", gather(table))
	}
	if got := gather(other); !slices.Equal(got, append(want, sp(7, 8, "a"))) {
		t.Errorf("the other table follows a change of the slice: %x", got)
	}
	clear(gather(table))
	if !slices.Equal(gather(table), want) {
		t.Error("answers share memory")
	}

	// What an iterator goes through is as it was when it was made, whatever becomes of the variable.
	*table = *other
	if !slices.Equal(slices.Collect(all), want) || !slices.Equal(slices.Collect(points), []int{1, 2}) {
		t.Error("iterators follow the variable")
	}
}

package puny

import (
	"bytes"
	"math"
	"math/big"
	"slices"
	"strings"
	"testing"

	"paronym/api"
)

// modelDigits are the digits, in order.
const modelDigits = "abcdefghijklmnopqrstuvwxyz0123456789"

// modelMost is the greatest number that Decode reckons with.
const modelMost = 1<<31 - 1

// modelScalar tells whether a number is a scalar.
func modelScalar(c int) bool {
	return c >= 0 && c <= 0xd7ff || c >= 0xe000 && c <= 0x10ffff
}

// modelThreshold is the chapter's t.
func modelThreshold(k, bias int) int {
	t := k - bias
	if t < 1 {
		t = 1
	}
	if t > 26 {
		t = 26
	}
	return t
}

// modelNumber is how a number is written from k on.
func modelNumber(q, k, bias int) string {
	t := modelThreshold(k, bias)
	if q < t {
		return modelDigits[q : q+1]
	}
	digit := t + (q-t)%(36-t)
	return modelDigits[digit:digit+1] + modelNumber((q-t)/(36-t), k+36, bias)
}

// modelBias is the bias behind a delta.
func modelBias(delta, count int, first bool) int {
	half := delta / 2
	if first {
		half = delta / 700
	}
	return modelBiasFrom(half+half/count, 0)
}

// modelBiasFrom is the bias of a delta that has been brought down k/36 times.
func modelBiasFrom(delta, k int) int {
	if delta > 455 {
		return modelBiasFrom(delta/35, k+36)
	}
	return k + 36*delta/(delta+38)
}

// modelForm is a text's form; each delta is told by where its code point goes and where the one ahead of it went, not by going through the text.
func modelForm(s []int) string {
	var b strings.Builder
	var others []int
	for at, c := range s {
		if c < 0x80 {
			b.WriteByte(byte(c))
		} else {
			others = append(others, at)
		}
	}
	had := len(s) - len(others)
	if had > 0 {
		b.WriteByte('-')
	}
	slices.SortStableFunc(others, func(at, other int) int { return s[at] - s[other] })
	n, next, bias := 0x80, 0, 72
	for done, at := range others {
		place := 0
		for _, c := range s[:at] {
			if c <= s[at] {
				place++
			}
		}
		count := had + done + 1
		delta := (s[at]-n)*count + place - next
		b.WriteString(modelNumber(delta, 36, bias))
		bias = modelBias(delta, count, done == 0)
		n, next = s[at], place+1
	}
	return b.String()
}

// modelSplit is what stands ahead of the last hyphen and what stands behind it.
func modelSplit(b string) (string, string) {
	for at := len(b) - 1; at > 0; at-- {
		if b[at] == '-' {
			return b[:at], b[at+1:]
		}
	}
	return "", b
}

// modelRead is the number ahead, as great as it may be, and what stands behind it.
func modelRead(b string, bias int) (*big.Int, string, api.Errno) {
	number, weight, most := new(big.Int), big.NewInt(1), big.NewInt(modelMost)
	for k := 36; b != ""; k += 36 {
		digit := strings.Index(modelDigits, strings.ToLower(b[:1]))
		if digit < 0 {
			return nil, "", api.ErrPuny
		}
		b = b[1:]
		number.Add(number, new(big.Int).Mul(weight, big.NewInt(int64(digit))))
		if number.Cmp(most) > 0 {
			return nil, "", api.ErrOver
		}
		t := modelThreshold(k, bias)
		if digit < t {
			return number, b, api.OK
		}
		weight.Mul(weight, big.NewInt(int64(36-t)))
		if weight.Cmp(most) > 0 {
			return nil, "", api.ErrOver
		}
	}
	return nil, "", api.ErrPuny
}

// modelText is the text of a form.
func modelText(b string) ([]int, api.Errno) {
	if len(b) > 12000 {
		return nil, api.ErrLong
	}
	for at := range len(b) {
		if b[at] > 0x7f {
			return nil, api.ErrPuny
		}
	}
	head, tail := modelSplit(b)
	text := numbers(head)
	n, next, bias := 0x80, 0, 72
	for tail != "" {
		number, rest, err := modelRead(tail, bias)
		if err != api.OK {
			return nil, err
		}
		tail = rest
		count := len(text) + 1
		bias = modelBias(int(number.Int64()), count, len(text) == len(head))
		sum := int(number.Int64()) + next
		n += sum / count
		if sum > modelMost || n > modelMost {
			return nil, api.ErrOver
		}
		if !modelScalar(n) {
			return nil, api.ErrUTF
		}
		place := sum % count
		text = append(text, 0)
		copy(text[place+1:], text[place:])
		text[place] = n
		next = place + 1
	}
	return text, api.OK
}

// formOf is what stands ahead of the last hyphen, and numbers of any size, each written by its bias.
func formOf(head string, deltas ...int) string {
	b := head
	if head != "" {
		b += "-"
	}
	bias := 72
	for done, delta := range deltas {
		b += modelNumber(delta, 36, bias)
		bias = modelBias(delta, len(head)+done+1, done == 0)
	}
	return b
}

// numbers is a text of numbers.
func numbers(text string) []int {
	var s []int
	for _, c := range text {
		s = append(s, int(c))
	}
	return s
}

// run is one code point many times.
func run(c, count int) []int { return slices.Repeat([]int{c}, count) }

// texts calls what it is given with each text over an alphabet, up to a length.
func texts[T any](alphabet []T, longest int, call func(s []T)) {
	var grow func(s []T)
	grow = func(s []T) {
		call(s)
		if len(s) == longest {
			return
		}
		for _, c := range alphabet {
			grow(append(slices.Clone(s), c))
		}
	}
	grow(nil)
}

// holdEncode holds Encode of a text against the form that is wanted.
func holdEncode(t *testing.T, s []int, want string) {
	t.Helper()
	if b, err := Encode(s); err != api.OK || string(b) != want {
		t.Errorf("Encode(%X): %q, %d, not %q", s, b, err, want)
	}
}

// holdNone holds Encode of what has no form against the error that is wanted.
func holdNone(t *testing.T, s []int, want api.Errno) {
	t.Helper()
	if b, err := Encode(s); err != want || len(b) != 0 {
		t.Errorf("Encode of %d numbers: %q, %d, not %d", len(s), b, err, want)
	}
}

// holdDecode holds Decode of octets against the text and the error that are wanted.
func holdDecode(t *testing.T, b string, want []int, wrong api.Errno) {
	t.Helper()
	if s, err := Decode([]byte(b)); err != wrong || !slices.Equal(s, want) {
		t.Errorf("Decode(%q): %X, %d, not %X, %d", b, s, err, want, wrong)
	}
}

// holdModel holds Decode of octets against the model, and a text that it answers against the words: the octets are its form but for large letters among the digits.
func holdModel(t *testing.T, b string) {
	t.Helper()
	want, wrong := modelText(b)
	holdDecode(t, b, want, wrong)
	if wrong != api.OK {
		return
	}
	head, tail := modelSplit(b)
	small := b[:len(b)-len(tail)] + strings.ToLower(tail)
	if form := modelForm(want); form != small {
		t.Errorf("%q (ahead of the last hyphen %q): the form of its text is %q", b, head, form)
	}
}

// holdBoth holds a text against its form, there and back.
func holdBoth(t *testing.T, s []int) {
	t.Helper()
	form := modelForm(s)
	holdEncode(t, s, form)
	holdDecode(t, form, s, api.OK)
}

// pairs are forms with their texts: the edges, then RFC 3492's own (chapter 7.1; the large letter among the digits of one of them is written small).
var pairs = []struct{ form, text string }{
	{"", ""},
	{"a-", "a"}, {"abc-", "abc"}, {"9-", "9"}, {" -", " "}, {"\x00-", "\x00"}, {"\x7f-", "\x7f"}, {"xn--a-", "xn--a"},
	{"--", "-"}, {"---", "--"}, {"----", "---"}, {"-a-", "-a"}, {"a--", "a-"}, {"-a--", "-a-"},
	{"--eha", "-\u00fc"}, {"--dha", "\u00fc-"}, {"---xka", "-\u00fc-"}, {"---yka", "--\u00fc"}, {"a--b-1ra", "a-\u00fc-b"},
	{"a", "\u0080"}, {"ba", "\u0081"}, {"tda", "\u00fc"}, {"hb9b", "\ud7ff"}, {"0y0c", "\ue000"}, {"zn7c", "\ufffd"}, {"1n7c", "\uffff"}, {"2n7c", "\U00010000"}, {"dn32g", "\U0010ffff"},
	{"\x00-ba", "\x00\u0080"}, {"\x7f-ba", "\x7f\u0080"}, {"0-bga", "0\u00e9"}, {"z-h023p", "z\U0010ffff"}, {"_-dha", "\u00fc_"},
	{"a08093t", "\u0080\U0010ffff"}, {"a97093t", "\U0010ffff\u0080"}, {"acd", "\u0080\u0081\u0082"}, {"abc", "\u0082\u0081\u0080"},
	{"tdaa", "\u00fc\u00fc"}, {"tdaaa", "\u00fc\u00fc\u00fc"}, {"80a", "\u0430"}, {"80aa", "\u0430\u0430"}, {"aa-7kc", "a\u0430a"},
	{"aaaaaaaaaa", "\u0080\u0080\u0080\u0080\u0080\u0080\u0080\u0080\u0080\u0080"}, {"dn32gaaa", "\U0010ffff\U0010ffff\U0010ffff\U0010ffff"},
	{"a-eha", "a\u00fc"}, {"a-dha", "\u00fca"}, {"A-dhab", "\u00fcA\u00fc"}, {"a-ylb79ag3b", "\u0561\u0431\u03b1a"}, {"a-zlb89ah3b", "a\u03b1\u0431\u0561"},
	{"bcher-kva", "b\u00fccher"}, {"BCHER-2pa", "B\u00dcCHER"}, {"Mnchen-3ya", "M\u00fcnchen"},
	{"egbpdaj6bu4bxfgehfvwxn", "\u0644\u064a\u0647\u0645\u0627\u0628\u062a\u0643\u0644\u0645\u0648\u0634\u0639\u0631\u0628\u064a\u061f"},
	{"ihqwcrb4cv8a8dqg056pqjye", "\u4ed6\u4eec\u4e3a\u4ec0\u4e48\u4e0d\u8bf4\u4e2d\u6587"},
	{"ihqwctvzc91f659drss3x8bo0yb", "\u4ed6\u5011\u7232\u4ec0\u9ebd\u4e0d\u8aaa\u4e2d\u6587"},
	{"Proprostnemluvesky-uyb24dma41a", "Pro\u010dprost\u011bnemluv\u00ed\u010desky"},
	{"4dbcagdahymbxekheh6e0a7fei0b", "\u05dc\u05de\u05d4\u05d4\u05dd\u05e4\u05e9\u05d5\u05d8\u05dc\u05d0\u05de\u05d3\u05d1\u05e8\u05d9\u05dd\u05e2\u05d1\u05e8\u05d9\u05ea"},
	{"i1baa7eci9glrd9b2ae1bj0hfcgg6iyaf8o0a1dig0cd", "\u092f\u0939\u0932\u094b\u0917\u0939\u093f\u0928\u094d\u0926\u0940\u0915\u094d\u092f\u094b\u0902\u0928\u0939\u0940\u0902\u092c\u094b\u0932\u0938\u0915\u0924\u0947\u0939\u0948\u0902"},
	{"n8jok5ay5dzabd5bym9f0cm5685rrjetr6pdxa", "\u306a\u305c\u307f\u3093\u306a\u65e5\u672c\u8a9e\u3092\u8a71\u3057\u3066\u304f\u308c\u306a\u3044\u306e\u304b"},
	{"989aomsvi5e83db1d2a355cv1e0vak1dwrv93d5xbh15a0dt30a5jpsd879ccm6fea98c", "\uc138\uacc4\uc758\ubaa8\ub4e0\uc0ac\ub78c\ub4e4\uc774\ud55c\uad6d\uc5b4\ub97c\uc774\ud574\ud55c\ub2e4\uba74\uc5bc\ub9c8\ub098\uc88b\uc744\uae4c"},
	{"b1abfaaepdrnnbgefbadotcwatmq2g4l", "\u043f\u043e\u0447\u0435\u043c\u0443\u0436\u0435\u043e\u043d\u0438\u043d\u0435\u0433\u043e\u0432\u043e\u0440\u044f\u0442\u043f\u043e\u0440\u0443\u0441\u0441\u043a\u0438"},
	{"PorqunopuedensimplementehablarenEspaol-fmd56a", "Porqu\u00e9nopuedensimplementehablarenEspa\u00f1ol"},
	{"TisaohkhngthchnitingVit-kjcr8268qyxafd2f1b9g", "T\u1ea1isaoh\u1ecdkh\u00f4ngth\u1ec3ch\u1ec9n\u00f3iti\u1ebfngVi\u1ec7t"},
	{"3B-ww4c5e180e575a65lsy2b", "3\u5e74B\u7d44\u91d1\u516b\u5148\u751f"},
	{"-with-SUPER-MONKEYS-pc58ag80a8qai00g7n9n", "\u5b89\u5ba4\u5948\u7f8e\u6075-with-SUPER-MONKEYS"},
	{"Hello-Another-Way--fc4qua05auwb3674vfr0b", "Hello-Another-Way-\u305d\u308c\u305e\u308c\u306e\u5834\u6240"},
	{"2-u9tlzr9756bt3uc0v", "\u3072\u3068\u3064\u5c4b\u6839\u306e\u4e0b2"},
	{"MajiKoi5-783gue6qz075azm5e", "Maji\u3067Koi\u3059\u308b5\u79d2\u524d"},
	{"de-jg4avhby1noc0d", "\u30d1\u30d5\u30a3\u30fcde\u30eb\u30f3\u30d0"},
	{"d9juau41awczczp", "\u305d\u306e\u30b9\u30d4\u30fc\u30c9\u3067"},
	{"-> $1.00 <--", "-> $1.00 <-"},
}

func TestEncodeTableP12_1(t *testing.T) {
	for _, p := range pairs {
		s := numbers(p.text)
		if model := modelForm(s); model != p.form {
			t.Errorf("the model's form of %X: %q, not %q", s, model, p.form)
		}
		holdEncode(t, s, p.form)
	}
	holdEncode(t, nil, "")
	holdEncode(t, []int{}, "")
}

// wrongNumbers are no scalars; some would be one if they were cut to fewer bits.
var wrongNumbers = []int{
	0xd800, 0xd801, 0xdbff, 0xdc00, 0xdffe, 0xdfff,
	-1, -2, -0x61, -0x80, 0x61 - 1<<8, 0x61 - 1<<16, 0x61 - 1<<32, math.MinInt, math.MinInt + 1, math.MinInt + 0x61, math.MinInt32,
	0x110000, 0x110001, 0x110061, 1<<21 + 0x61, 1<<31 - 1, 1 << 31, 1 << 32, 1<<32 + 0x61, 1<<40 + 0xfc, math.MaxInt - 1, math.MaxInt,
}

func TestEncodeNoScalarP12_1(t *testing.T) {
	for _, c := range wrongNumbers {
		for _, s := range [][]int{
			{c}, {c, c}, {'a', c}, {c, 'a'}, {'a', c, 'b'}, {0xfc, c}, {c, 0xfc}, {0x10ffff, c, 0x80}, {'-', c},
			append(run('a', 999), c), append(run('a', 1000), c), append([]int{c}, run(0xfc, 1000)...), append(run(0x10ffff, 5000), c), run(c, 1000), run(c, 1001),
		} {
			holdNone(t, s, api.ErrUTF)
		}
	}
	for c := 0xd800; c <= 0xdfff; c++ {
		holdNone(t, []int{0xd7ff, c, 0xe000}, api.ErrUTF)
	}
}

func TestEncodeLengthsP12_1(t *testing.T) {
	for _, c := range []int{0, 'a', '-', 0x7f, 0x80, 0xfc, 0xd7ff, 0xe000, 0x10ffff} {
		for _, count := range []int{999, 1000} {
			holdBoth(t, run(c, count))
			mixed := append(run('a', count-1), c)
			holdBoth(t, mixed)
			slices.Reverse(mixed)
			holdBoth(t, mixed)
		}
		for _, count := range []int{1001, 1002, 2000, 12001, 1 << 20} {
			holdNone(t, run(c, count), api.ErrLong)
		}
	}
}

func TestEncodeLongTextsP12_1(t *testing.T) {
	for _, step := range []int{1, 2, 7, 53, 1100} {
		var rising []int
		for c := 0; len(rising) < 1000; c += step {
			if modelScalar(c) {
				rising = append(rising, c)
			}
		}
		falling := slices.Clone(rising)
		slices.Reverse(falling)
		// The halves in turn, so that places go forth and back.
		var woven []int
		for at := range 500 {
			woven = append(woven, rising[at], falling[at])
		}
		for _, s := range [][]int{rising, falling, woven, slices.Concat(rising[500:], rising[:500])} {
			holdBoth(t, s)
			holdBoth(t, s[:999])
			holdBoth(t, s[300:])
		}
	}
}

func TestGreatNumbersP12_1(t *testing.T) {
	// The greatest numbers that are ever written: much stands there, and what is put is far off.
	for _, have := range []int{0, 1, 2, 100, 500, 998, 999} {
		for _, c := range []int{0x80, 0xff, 0xffff, 0x7ffff, 0x80000, 0x10fffe, 0x10ffff} {
			for _, plain := range []int{0, 'a', 0x7f, 0x80} {
				ahead := run(plain, have)
				holdBoth(t, append(slices.Clone(ahead), c))
				holdBoth(t, append([]int{c}, ahead...))
				holdBoth(t, slices.Concat(ahead[:have/2], []int{c}, ahead[have/2:]))
				if have < 999 {
					holdBoth(t, slices.Concat([]int{c - c/2}, ahead, []int{c}))
					holdBoth(t, slices.Concat([]int{0x10ffff}, ahead, []int{c}))
				}
			}
		}
	}
}

func TestEachScalarP12_3(t *testing.T) {
	for c := range 0x110000 {
		if !modelScalar(c) {
			continue
		}
		holdBoth(t, []int{c})
		if c%97 == 0 {
			holdBoth(t, []int{'a', c, c, 'b', 0xfc})
		}
	}
}

func TestAllShortTextsP12_3(t *testing.T) {
	for _, alphabet := range [][]int{
		{'a', '-', 0x80}, {'a', 0x80, 0x81}, {0x7f, 0x80, 0x10ffff}, {'-', 0xfc, 0x430},
	} {
		texts(alphabet, 7, func(s []int) { holdBoth(t, s) })
	}
	texts([]int{0, '-', 'Z', 0x80, 0xd7ff, 0xe000, 0x10ffff}, 4, func(s []int) { holdBoth(t, s) })
}

// mixer makes numbers that look drawn, the same ones in each run.
type mixer uint64

// below is a number below one.
func (m *mixer) below(most int) int {
	*m = *m*6364136223846793005 + 1442695040888963407
	return int(uint64(*m)>>33) % most
}

func TestMixedTextsP12_3(t *testing.T) {
	m := mixer(1)
	for range 3000 {
		var s []int
		widest := []int{0x80, 0x100, 0x600, 0x3000, 0x10000, 0x110000}[m.below(6)]
		for range m.below(60) {
			c := m.below(widest)
			if m.below(3) == 0 {
				c = 'a' + m.below(26)
			}
			if modelScalar(c) {
				s = append(s, c)
			}
		}
		holdBoth(t, s)
	}
}

func TestDecodeTableP12_2(t *testing.T) {
	for _, p := range pairs {
		holdDecode(t, p.form, numbers(p.text), api.OK)
	}
	for _, none := range [][]byte{nil, {}} {
		if s, err := Decode(none); len(s) != 0 || err != api.OK {
			t.Errorf("Decode of nothing: %X, %d", s, err)
		}
	}
}

func TestLargeLettersP12_2(t *testing.T) {
	for _, p := range pairs {
		_, tail := modelSplit(p.form)
		ahead := p.form[:len(p.form)-len(tail)]
		want := numbers(p.text)
		holdDecode(t, ahead+strings.ToUpper(tail), want, api.OK)
		// Ahead of the last hyphen they stand as they are.
		for at, c := range want {
			if c >= 'a' && c <= 'z' {
				want[at] = c - 0x20
			}
		}
		holdDecode(t, strings.ToUpper(ahead)+tail, want, api.OK)
		holdDecode(t, strings.ToUpper(p.form), want, api.OK)
	}
	holdDecode(t, "b1abfaaepdrnnbgefbaDotcwatmq2g4l", mustText(t, "b1abfaaepdrnnbgefbadotcwatmq2g4l"), api.OK)
	// Each mixture of large and small ones.
	const form = "tdaabcz"
	want, wrong := modelText(form)
	for mixture := range 1 << len(form) {
		b := []byte(form)
		for at := range b {
			if mixture>>at&1 == 1 {
				b[at] -= 0x20
			}
		}
		holdDecode(t, string(b), want, wrong)
		holdDecode(t, "aB-"+string(b), mustText(t, "aB-"+form), api.OK)
	}
}

// mustText is the model's text of a form that has one.
func mustText(t *testing.T, b string) []int {
	t.Helper()
	s, err := modelText(b)
	if err != api.OK {
		t.Errorf("%q has no text: %d", b, err)
	}
	return s
}

func TestDecodeErrorsP12_2(t *testing.T) {
	for _, h := range []struct {
		b    string
		want api.Errno
	}{
		// What is no digit, at the first place of a number, in its midst, at its end.
		{"_", api.ErrPuny}, {"-", api.ErrPuny}, {"-a", api.ErrPuny}, {"-9", api.ErrPuny}, {"-abc", api.ErrPuny}, {" ", api.ErrPuny}, {"\x00", api.ErrPuny}, {"\x7f", api.ErrPuny},
		{"bcher-_va", api.ErrPuny}, {"bcher-k_a", api.ErrPuny}, {"bcher-kv_", api.ErrPuny}, {"bcher-kva_", api.ErrPuny}, {"bcher-kva ", api.ErrPuny}, {"td{", api.ErrPuny}, {"td`", api.ErrPuny}, {"td@", api.ErrPuny}, {"td[", api.ErrPuny}, {"td/", api.ErrPuny}, {"td:", api.ErrPuny},
		// Octets that end within a number.
		{"bcher-k", api.ErrPuny}, {"bcher-kv", api.ErrPuny}, {"t", api.ErrPuny}, {"td", api.ErrPuny}, {"d", api.ErrPuny}, {"9", api.ErrPuny}, {"99", api.ErrPuny}, {"tda9", api.ErrPuny}, {"tda0z9", api.ErrPuny}, {"dn32", api.ErrPuny},
		// What is not ASCII, wherever it stands.
		{"\x80", api.ErrPuny}, {"\xff", api.ErrPuny}, {"b\xfc-", api.ErrPuny}, {"\xfcb-tda", api.ErrPuny}, {"tda\x80", api.ErrPuny}, {"99999999\x80", api.ErrPuny}, {"ib9b\x80", api.ErrPuny}, {"\xf4", api.ErrPuny},
		// Numbers too great, and what stands behind them.
		{"99999999", api.ErrOver}, {"a-99999999a", api.ErrOver}, {"99999999_", api.ErrOver}, {"9999999_", api.ErrPuny}, {"999999_9", api.ErrPuny}, {"_99999999", api.ErrPuny}, {"-99999999", api.ErrPuny}, {"99999999-", api.OK},
		// An n that is no scalar, and what stands behind it.
		{"ib9b", api.ErrUTF}, {"ib9b_", api.ErrUTF}, {"ib9b9", api.ErrUTF}, {"ib9b99999999", api.ErrUTF}, {"en32g", api.ErrUTF}, {"en32g_", api.ErrUTF}, {"ib9", api.ErrPuny}, {"ib9_", api.ErrPuny},
		{"tda999999999", api.ErrOver}, {"tda99999999", api.ErrPuny}, {"tda999999999_", api.ErrOver}, {"tda99999999_", api.ErrPuny}, {"99999999tda", api.ErrOver},
	} {
		want, wrong := modelText(h.b)
		if wrong != h.want {
			t.Errorf("the model of %q: %d, not %d", h.b, wrong, h.want)
		}
		holdDecode(t, h.b, want, h.want)
	}
}

func TestDecodeLengthsP12_2(t *testing.T) {
	for _, c := range []string{"a", "b", "A", "-"} {
		for _, count := range []int{11999, 12000} {
			holdModel(t, strings.Repeat(c, count))
			holdModel(t, strings.Repeat(c, count-1)+"-")
			holdModel(t, "z"+strings.Repeat(c, count-1))
		}
		holdDecode(t, strings.Repeat(c, 12001), nil, api.ErrLong)
		holdDecode(t, strings.Repeat(c, 12000)+"-", nil, api.ErrLong)
		holdDecode(t, strings.Repeat(c, 1<<20), nil, api.ErrLong)
		for _, other := range []string{"\x80", "\xff"} {
			holdDecode(t, strings.Repeat(c, 12000)+other, nil, api.ErrLong)
			holdDecode(t, other+strings.Repeat(c, 12000), nil, api.ErrLong)
			holdDecode(t, strings.Repeat(c, 11999)+other, nil, api.ErrPuny)
			holdDecode(t, other+strings.Repeat(c, 11999), nil, api.ErrPuny)
		}
	}
	holdDecode(t, strings.Repeat("a", 12000), run(0x80, 12000), api.OK)
	holdDecode(t, strings.Repeat("a", 11999)+"-", run('a', 11999), api.OK)
	holdDecode(t, strings.Repeat("-", 12000), run('-', 11999), api.OK)
	holdDecode(t, strings.Repeat("a", 11999)+"_", nil, api.ErrPuny)
	holdDecode(t, strings.Repeat("9", 12000), nil, api.ErrOver)
	holdDecode(t, strings.Repeat("9", 12001), nil, api.ErrLong)
	holdDecode(t, strings.Repeat("_", 12001), nil, api.ErrLong)
}

func TestEachOctetP12_2(t *testing.T) {
	for _, form := range []string{"tda", "bcher-kva", "a08093t", "-a--1ra", "a-ylb79ag3b"} {
		_, tail := modelSplit(form)
		for at := range len(form) {
			for c := range 0x100 {
				b := []byte(form)
				b[at] = byte(c)
				holdModel(t, string(b))
				if at < len(form)-len(tail) || c == '-' || c < 0x80 && strings.Contains(modelDigits, strings.ToLower(string(rune(c)))) {
					continue
				}
				if s, err := Decode(b); err == api.OK || len(s) != 0 {
					t.Errorf("Decode(%q): %X, %d", b, s, err)
				}
			}
		}
	}
	for c := range 0x100 {
		for _, other := range []string{"", "a", "-", "9", "_", "\x80"} {
			holdModel(t, string([]byte{byte(c)})+other)
			holdModel(t, other+string([]byte{byte(c)}))
			holdModel(t, "a-"+other+string([]byte{byte(c)}))
		}
	}
}

func TestAllShortOctetsP12_2(t *testing.T) {
	texts([]byte("abz09-_AZ"), 5, func(b []byte) { holdModel(t, string(b)) })
	texts([]byte("a9-"), 9, func(b []byte) { holdModel(t, string(b)) })
	texts([]byte(modelDigits), 3, func(b []byte) { holdModel(t, string(b)) })
	texts([]byte("ay9"), 7, func(b []byte) { holdModel(t, "b-c-"+string(b)) })
}

func TestMixedOctetsP12_2(t *testing.T) {
	const octets = modelDigits + "AZ-"
	m := mixer(2)
	for range 20000 {
		var b []byte
		for range m.below(14) {
			b = append(b, octets[m.below(len(octets))])
		}
		holdModel(t, string(b))
		// Small digits often end numbers, so that more of them are read.
		for at := range b {
			if m.below(2) == 0 {
				b[at] = octets[m.below(6)]
			}
		}
		holdModel(t, string(b))
		holdModel(t, "aa-a-"+string(b))
	}
}

func TestEndsWithinP12_2(t *testing.T) {
	for _, p := range pairs {
		for end := range p.form {
			holdModel(t, p.form[:end])
		}
	}
	for _, c := range []int{0x9b, 0xfc, 0x430, 0xd7ff, 0xe000, 0x10ffff} {
		form := modelNumber(c-0x80, 36, 72)
		holdDecode(t, form, []int{c}, api.OK)
		for end := 1; end < len(form); end++ {
			holdDecode(t, form[:end], nil, api.ErrPuny)
		}
		// The second number, by its own bias.
		two := formOf("", 0, (c-0x80)*2)
		holdDecode(t, two, []int{0x80, c}, api.OK)
		for end := 2; end < len(two); end++ {
			holdDecode(t, two[:end], nil, api.ErrPuny)
			holdDecode(t, two[:end]+"_"+two[end:], nil, api.ErrPuny)
		}
	}
}

func TestNoScalarP12_2(t *testing.T) {
	for c := 0xd7fe; c <= 0xe001; c++ {
		want, wrong := []int{c}, api.OK
		if c >= 0xd800 && c <= 0xdfff {
			want, wrong = nil, api.ErrUTF
		}
		holdDecode(t, formOf("", c-0x80), want, wrong)
		// Behind another one, and with one more behind it.
		if wrong == api.OK {
			want = []int{0xd7fe, c}
		}
		holdDecode(t, formOf("", 0xd7fe-0x80, (c-0xd7fe)*2), want, wrong)
		if wrong == api.OK {
			want = []int{c, c}
		}
		holdDecode(t, formOf("", c-0x80, 0), want, wrong)
	}
	holdDecode(t, formOf("", 0x10ffff-0x80), []int{0x10ffff}, api.OK)
	holdDecode(t, formOf("", 0x110000-0x80), nil, api.ErrUTF)
	holdDecode(t, formOf("ab", (0x10ffff-0x80)*3+2), []int{'a', 'b', 0x10ffff}, api.OK)
	holdDecode(t, formOf("ab", (0x10ffff-0x80)*3+3), nil, api.ErrUTF)
	// Places go round to where n is one more.
	holdDecode(t, formOf("", 0x10ffff-0x80, 0), []int{0x10ffff, 0x10ffff}, api.OK)
	holdDecode(t, formOf("", 0x10ffff-0x80, 1), nil, api.ErrUTF)
	holdDecode(t, formOf("", 0xd7ff-0x80, 1), nil, api.ErrUTF)
	holdDecode(t, formOf("", 0xd7ff-0x80, 0x801*2-1), []int{0xe000, 0xd7ff}, api.OK)
}

func TestNumberTooGreatP12_2(t *testing.T) {
	nine, many := strings.Repeat("a", 9), strings.Repeat("a", 1999)
	putAt := func(s []int, at, c int) []int { return slices.Insert(slices.Clone(s), at, c) }
	for _, h := range []struct {
		b    string
		want []int
		err  api.Errno
	}{
		// The number by itself: at 1999 the greatest one has a text, among 9 its n is no scalar.
		{formOf(nine, modelMost), nil, api.ErrUTF}, {formOf(nine, modelMost+1), nil, api.ErrOver},
		{formOf(many, modelMost), putAt(run('a', 1999), modelMost%2000, 0x80+modelMost/2000), api.OK},
		{formOf(many, modelMost+1), nil, api.ErrOver}, {formOf(many, modelMost+2000), nil, api.ErrOver}, {formOf(many, 1<<32), nil, api.ErrOver}, {formOf(nine, 1<<32+10), nil, api.ErrOver}, {formOf(nine, 1<<40), nil, api.ErrOver}, {formOf(nine, 1<<60), nil, api.ErrOver},
		// Together with the place behind the code point that was put last: 4.
		{formOf(nine, 3), putAt(run('a', 9), 3, 0x80), api.OK},
		{formOf(nine, 3, modelMost-4), nil, api.ErrUTF}, {formOf(nine, 3, modelMost-3), nil, api.ErrOver}, {formOf(nine, 3, modelMost), nil, api.ErrOver},
		{formOf(many, 3, modelMost-4), putAt(putAt(run('a', 1999), 3, 0x80), modelMost%2001, 0x80+modelMost/2001), api.OK},
		{formOf(many, 3, modelMost-3), nil, api.ErrOver}, {formOf(many, 0, modelMost-1), putAt(putAt(run('a', 1999), 0, 0x80), modelMost%2001, 0x80+modelMost/2001), api.OK}, {formOf(many, 0, modelMost), nil, api.ErrOver},
		{formOf(many, 1999, modelMost-2000), putAt(putAt(run('a', 1999), 1999, 0x80), modelMost%2001, 0x80+modelMost/2001), api.OK}, {formOf(many, 1999, modelMost-1999), nil, api.ErrOver},
		// n: where nothing stands, the number is added to it as it is.
		{formOf("", modelMost-0x80), nil, api.ErrUTF}, {formOf("", modelMost-0x7f), nil, api.ErrOver}, {formOf("", modelMost), nil, api.ErrOver}, {formOf("", modelMost+1), nil, api.ErrOver},
		{formOf("a", modelMost), nil, api.ErrUTF}, {formOf("a", modelMost+1), nil, api.ErrOver},
	} {
		model, wrong := modelText(h.b)
		if wrong != h.err || !slices.Equal(model, h.want) {
			t.Errorf("the model of %q: %d, not %d", h.b[max(0, len(h.b)-20):], wrong, h.err)
		}
		holdDecode(t, h.b, h.want, h.err)
		// What stands behind it isn't looked at, if it is wrong.
		if h.err != api.OK {
			holdDecode(t, h.b+"_", nil, h.err)
			holdDecode(t, h.b+"9", nil, h.err)
			holdDecode(t, h.b+"99999999", nil, h.err)
		}
	}
}

func TestUnendedNumberTooGreatP12_2(t *testing.T) {
	// By each of these biases: the least digits that don't end a number, the greatest ones, and those between, up to where it is too great; behind each of them an octet that is no digit, and the end.
	for _, ahead := range []string{
		"", "a-", strings.Repeat("a", 9) + "-", formOf("", 0), formOf("", 0xfc-0x80), formOf("", 0x10ffff-0x80), formOf("ab", 0x10ff00*3),
		formOf(strings.Repeat("a", 999), 0x100000*1000), formOf(strings.Repeat("a", 1999), 0x100000*2000), formOf(strings.Repeat("a", 1998), 0, 0xf0000*2000), formOf(strings.Repeat("a", 400), 0, 0xf0000*402),
	} {
		for _, digit := range modelDigits {
			b := ahead
			for range 12 {
				b += string(digit)
				holdModel(t, b)
				holdModel(t, b+"_")
				for _, last := range "abz9" {
					holdModel(t, b+string(last))
				}
			}
		}
	}
}

func TestEachNumberHasOneFormP12_2(t *testing.T) {
	// No number is written with more digits than it needs: whatever digits are read are those that are written, so that no two forms have one text.
	forms := map[string]string{}
	texts([]byte("abcyz089"), 5, func(b []byte) {
		s, err := Decode(b)
		if err != api.OK {
			return
		}
		var text strings.Builder
		for _, c := range s {
			text.WriteString(string(rune(c)))
		}
		if other, has := forms[text.String()]; has {
			t.Errorf("%q and %q have one text", other, b)
		}
		forms[text.String()] = string(b)
		holdEncode(t, s, string(b))
	})
	for _, zeros := range []string{"tdaa", "kvaa", "tdaaaaaaaa"} {
		s := mustText(t, zeros)
		holdDecode(t, zeros, s, api.OK)
		holdEncode(t, s, zeros)
	}
}

func TestHandedInP12_3(t *testing.T) {
	for _, p := range pairs {
		held := append(numbers(p.text), 0x5a, 0xfc, -1, 0x10ffff)
		before := slices.Clone(held)
		s := held[:len(held)-4]
		holdEncode(t, s, p.form)
		if !slices.Equal(held, before) {
			t.Fatalf("%X was changed: %X", before, held)
		}
		octets := []byte(p.form + "spare-ROOM\x80")
		kept := bytes.Clone(octets)
		b := octets[:len(p.form)]
		if s, err := Decode(b); err != api.OK || !slices.Equal(s, before[:len(s)]) {
			t.Errorf("Decode(%q): %X, %d", b, s, err)
		}
		if !bytes.Equal(octets, kept) {
			t.Fatalf("%q was changed: %q", kept, octets)
		}
	}
	// What is wrong isn't changed either.
	wrong := []byte("bcher-KV_spare")
	if _, err := Decode(wrong[:9]); err != api.ErrPuny || string(wrong) != "bcher-KV_spare" {
		t.Errorf("%q, %d", wrong, err)
	}
	none := []int{0xfc, 'a', -1, 0xfc}
	if _, err := Encode(none[:3]); err != api.ErrUTF || !slices.Equal(none, []int{0xfc, 'a', -1, 0xfc}) {
		t.Errorf("%X, %d", none, err)
	}
}

func TestAnswersAreNewP12_3(t *testing.T) {
	for _, p := range pairs {
		text := numbers(p.text)
		s := slices.Clone(text)
		first, _ := Encode(s)
		second, _ := Encode(s)
		spoil(first, '?')
		if string(second) != p.form || !slices.Equal(s, text) {
			t.Errorf("a form that was changed changed %q or %X", second, s)
		}
		// What was handed in, changed behind the call, changes no answer.
		spoil(s, 0x430)
		if string(second) != p.form {
			t.Errorf("a text that was changed changed its form: %q", second)
		}
		holdEncode(t, text, p.form)

		b := []byte(p.form)
		one, _ := Decode(b)
		other, _ := Decode(b)
		spoil(one, 0x430)
		if string(b) != p.form || !slices.Equal(other, text) {
			t.Errorf("a text that was changed changed %q or %X", b, other)
		}
		spoil(b, '?')
		if !slices.Equal(other, text) {
			t.Errorf("a form that was changed changed its text: %X", other)
		}
		holdDecode(t, p.form, text, api.OK)
	}
}

// spoil writes over a list and over its spare room.
func spoil[T any](list []T, sign T) {
	whole := list[:cap(list)]
	for at := range whole {
		whole[at] = sign
	}
}

func TestChangedBehindTheCallP12_3(t *testing.T) {
	s := numbers("b\u00fccher")
	holdEncode(t, s, "bcher-kva")
	s[1] = 'u'
	holdEncode(t, s, "bucher-")
	s[0] = -1
	holdNone(t, s, api.ErrUTF)
	s[0] = 0x10ffff
	holdBoth(t, s)
	b := []byte("bcher-kva")
	decoded, err := Decode(b)
	b[8] = '_'
	if _, wrong := Decode(b); err != api.OK || wrong != api.ErrPuny || !slices.Equal(decoded, numbers("b\u00fccher")) {
		t.Errorf("%X, %d, %d", decoded, err, wrong)
	}
	b[8] = 'a'
	b[0] = 'q'
	if decoded, err = Decode(b); err != api.OK || !slices.Equal(decoded, numbers("q\u00fccher")) {
		t.Errorf("%X, %d", decoded, err)
	}
}

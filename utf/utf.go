// Package utf is layer 1: see shared/doc/01-utf.md.
package utf

import (
	"iter"
	"slices"
	"unicode/utf8"

	"paronym/api"
)

// Surrogates are code points that are no scalars: they have no octets.
const (
	firstSurrogate = 0xd800
	lastSurrogate  = 0xdfff
)

// Scalar tells whether a number is a scalar.
func Scalar(c int) bool {
	if c < 0 || c > api.MaxPoint {
		return false
	}
	return c < firstSurrogate || c > lastSurrogate
}

// Encode are the octets of scalars.
func Encode(s []int) ([]byte, bool) {
	var b []byte
	for _, c := range s {
		// Asked ahead of the conversion: a number too big for a rune would wrap round to another one.
		if !Scalar(c) {
			return nil, false
		}
		b = utf8.AppendRune(b, rune(c))
	}
	return b, true
}

// Points are the scalars of octets, with their places.
func Points(b []byte) iter.Seq2[int, int] {
	// A copy, since whoever handed the octets in may change them before the iterator is gone through.
	kept := slices.Clone(b)
	return func(yield func(int, int) bool) {
		for at := 0; at < len(kept); {
			c, size := first(kept[at:])
			if size == 0 || !yield(at, c) {
				return
			}
			at += size
		}
	}
}

// Decode are the scalars of octets.
func Decode(b []byte) ([]int, api.Errno, int) {
	var s []int
	for at := 0; at < len(b); {
		c, size := first(b[at:])
		if size == 0 {
			return nil, api.ErrUTF, at
		}
		s = append(s, c)
		at += size
	}
	return s, api.OK, len(b)
}

// first is the scalar whose octets b begins with, and how many they are; 0 and 0, if there is none.
func first(b []byte) (int, int) {
	r, size := utf8.DecodeRune(b)
	// RuneError is a scalar of three octets too; only a shorter one tells an error.
	if r == utf8.RuneError && size <= 1 {
		return 0, 0
	}
	return int(r), size
}

// Lower is an ASCII letter's small one.
func Lower(c int) int {
	if c >= 'A' && c <= 'Z' {
		return c + 0x20
	}
	return c
}

// Ascii tells whether all are ASCII.
func Ascii(s []int) bool {
	for _, c := range s {
		if c < 0 || c >= utf8.RuneSelf {
			return false
		}
	}
	return true
}

// Compare orders texts.
func Compare(a, b []int) int {
	return slices.Compare(a, b)
}

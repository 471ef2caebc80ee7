// Package utf is layer 1: UTF-8, by hand. See shared/doc/01-utf.md.
package utf

import "iter"

// Put is a code's bytes.
func Put(c int) []byte { return add(nil, c) }

// Get is the code at a place, and how many bytes it has.
func Get(b []byte, at int) (int, int, bool) { return get(b, at) }

// Valid says whether a text is codes' bytes.
func Valid(s string) bool {
	end := 0
	for _, behind := range codes(s) {
		end = behind
	}
	return end == len(s)
}

// Count is how many codes a text has.
func Count(s string) int {
	n, end := 0, 0
	for _, behind := range codes(s) {
		n, end = n+1, behind
	}
	if end < len(s) {
		return -1
	}
	return n
}

// Codes are a text's, and where they end.
func Codes(s string) ([]int, int) {
	var l []int
	end := 0
	for c, behind := range codes(s) {
		l, end = append(l, c), behind
	}
	return l, end
}

// Text is the text of codes.
func Text(l []int) (string, bool) {
	var b []byte
	for _, c := range l {
		if size(c) == 0 {
			return "", false
		}
		b = add(b, c)
	}
	return string(b), true
}

// codes hands on a text's codes, each with the place behind it, up to the first place where none is.
func codes(s string) iter.Seq2[int, int] {
	return func(yield func(int, int) bool) {
		at := 0
		for {
			c, n, ok := get(s, at)
			at += n
			if !ok || !yield(c, at) {
				return
			}
		}
	}
}

// size is how many bytes a code has; 0 of what is no code.
func size(c int) int {
	switch {
	case c < 0, c >= 0xD800 && c <= 0xDFFF, c > 0x10FFFF:
		return 0
	case c < 0x80:
		return 1
	case c < 0x800:
		return 2
	case c < 0x10000:
		return 3
	}
	return 4
}

// add is bytes, and a code's behind them; the bytes alone of what is no code.
func add(b []byte, c int) []byte {
	switch size(c) {
	case 1:
		return append(b, byte(c))
	case 2:
		return append(b, byte(0xC0|c>>6), six(c))
	case 3:
		return append(b, byte(0xE0|c>>12), six(c>>6), six(c))
	case 4:
		return append(b, byte(0xF0|c>>18), six(c>>12), six(c>>6), six(c))
	}
	return b
}

// six is the byte of a code's lowest six bits.
func six(c int) byte { return byte(0x80 | c&0x3F) }

// get is Get of bytes or of a text.
func get[T []byte | string](b T, at int) (int, int, bool) {
	if at < 0 || at >= len(b) {
		return 0, 0, false
	}
	c, n := first(b[at])
	if n == 0 || n > len(b)-at {
		return 0, 0, false
	}
	for i := 1; i < n; i++ {
		x := b[at+i]
		if x&0xC0 != 0x80 {
			return 0, 0, false
		}
		c = c<<6 | int(x&0x3F)
	}
	// A code has one form alone: neither a longer one, nor one of what is no code, is it.
	if size(c) != n {
		return 0, 0, false
	}
	return c, n, true
}

// first is the bits of a code that its first byte has, and how many bytes that asks for; 0 of a byte that begins none.
func first(x byte) (int, int) {
	switch {
	case x < 0x80:
		return int(x), 1
	case x&0xE0 == 0xC0:
		return int(x & 0x1F), 2
	case x&0xF0 == 0xE0:
		return int(x & 0x0F), 3
	case x&0xF8 == 0xF0:
		return int(x & 0x07), 4
	}
	return 0, 0
}

// Package utf is layer 1: texts as runes, and the literals that texts are written as (see shared/doc/01-utf.md).
package utf

import (
	"iter"
	"strings"
	"unicode/utf8"

	"weir/api"
)

// Valid: is s UTF-8?
func Valid(s string) bool {
	for at, r := range s {
		if !begins(s, at, r) {
			return false
		}
	}
	return true
}

// begins: does the rune r, which a range over s gives at the place at, begin there? Where none does, the range gives utf8.RuneError all the same, and that is a rune too.
func begins(s string, at int, r rune) bool {
	if r != utf8.RuneError {
		return true
	}
	_, width := Next(s, at)
	return width > 0
}

// Next: the rune that begins at the byte place at, and its width; -1 and 0, where none begins.
func Next(s string, at int) (rune, int) {
	if at < 0 || at >= len(s) {
		return -1, 0
	}
	r, width := utf8.DecodeRuneInString(s[at:])
	if r == utf8.RuneError && width == 1 { // U+FFFD that stands in the text has three bytes
		return -1, 0
	}
	return r, width
}

// Runes: a text's runes in their order.
func Runes(s string) ([]rune, api.Errno) {
	if !Valid(s) {
		return nil, api.ErrUTF
	}
	return []rune(s), api.OK
}

// Text: the text of runes.
func Text(rs []rune) (string, api.Errno) {
	for _, r := range rs {
		if !utf8.ValidRune(r) {
			return "", api.ErrRune
		}
	}
	return string(rs), api.OK
}

// All: byte places and runes, in order, up to the first place at which no rune begins.
func All(s string) iter.Seq2[int, rune] {
	return func(yield func(int, rune) bool) {
		for at, r := range s {
			if !begins(s, at, r) || !yield(at, r) {
				return
			}
		}
	}
}

// Place: line and column of a byte place, both from 1 on.
func Place(s string, at int) (line, col int) {
	at = min(max(at, 0), len(s))
	line = 1 + strings.Count(s[:at], "\n")
	start := strings.LastIndexByte(s[:at], '\n') + 1
	col = 1
	for i := range s[start:] {
		_, width := Next(s, start+i)
		if start+i+max(width, 1) > at {
			break
		}
		col++
	}
	return line, col
}

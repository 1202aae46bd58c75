package utf_test

import (
	"iter"
	"strings"
)

// The chapter's words, written down a second time and in another way, to hold the package against.

const (
	lastRune  = 0x10FFFF
	firstHalf = 0xD800
	lastHalf  = 0xDFFF
)

func isRune(r rune) bool {
	return r >= 0 && r < firstHalf || r > lastHalf && r <= lastRune
}

// form: the bytes of a number from 0 to 0x1FFFFF, digit by digit; of one that isn't a rune too.
func form(r rune) string {
	tail := func(shift int) byte { return 0x80 | byte(r>>shift)&0x3F }
	switch {
	case r < 0x80:
		return string([]byte{byte(r)})
	case r < 0x800:
		return string([]byte{0xC0 | byte(r>>6), tail(0)})
	case r < 0x10000:
		return string([]byte{0xE0 | byte(r>>12), tail(6), tail(0)})
	}
	return string([]byte{0xF0 | byte(r>>18), tail(12), tail(6), tail(0)})
}

// loose: the number that the bytes of p would be, were they a form of that length.
func loose(p string) rune {
	if len(p) == 1 {
		return rune(p[0])
	}
	r := rune(p[0] & (0xFF >> (len(p) + 1)))
	for i := 1; i < len(p); i++ {
		r = r<<6 | rune(p[i]&0x3F)
	}
	return r
}

// next: the rune that begins at a place, and its width, by trying each length.
func next(s string, at int) (rune, int) {
	for w := 1; at >= 0 && at < len(s) && w <= 4 && w <= len(s)-at; w++ {
		p := s[at : at+w]
		if r := loose(p); isRune(r) && form(r) == p {
			return r, w
		}
	}
	return -1, 0
}

// runes: the runes of s up to the first place at which none begins, their places, and whether that is the end of s.
func runes(s string) (rs []rune, places []int, all bool) {
	at := 0
	for at < len(s) {
		r, w := next(s, at)
		if w == 0 {
			return rs, places, false
		}
		rs, places = append(rs, r), append(places, at)
		at += w
	}
	return rs, places, true
}

// place: line and column, step by step.
func place(s string, at int) (line, col int) {
	at = min(max(at, 0), len(s))
	line, from := 1, 0
	for i := 0; i < at; i++ {
		if s[i] == '\n' {
			line, from = line+1, i+1
		}
	}
	col = 1
	for i := from; i < len(s); {
		_, w := next(s, i)
		i += max(w, 1)
		if i <= at {
			col++
		}
	}
	return line, col
}

// texts: every way to lay at most so many of the pieces one behind another, the empty text first.
func texts(most int, pieces ...string) iter.Seq[string] {
	return func(yield func(string) bool) {
		level := []string{""}
		for n := 0; ; n++ {
			for _, s := range level {
				if !yield(s) {
					return
				}
			}
			if n == most {
				return
			}
			level = longer(level, pieces)
		}
	}
}

func longer(level, pieces []string) []string {
	var out []string
	for _, s := range level {
		for _, p := range pieces {
			out = append(out, s+p)
		}
	}
	return out
}

// eachByte: the texts of one byte.
func eachByte() []string {
	var out []string
	for b := range 256 {
		out = append(out, string([]byte{byte(b)}))
	}
	return out
}

// edgeBytes: the bytes at which the forms change: ends of the ranges of first bytes and of the bytes behind them.
func edgeBytes() []string {
	return strings.Split("\n \x00 \x7f \x80 \x8f \x90 \x9f \xa0 \xbf \xc0 \xc1 \xc2 \xdf \xe0 \xe1 \xed \xee \xef \xf0 \xf1 \xf4 \xf5 \xff", " ")
}

// someTexts: UTF-8 and other texts of many kinds, for tests that ask each of them all there is to ask.
func someTexts() iter.Seq[string] {
	return texts(4, "a", "\n", "\"", "\\", "\x00", "\x7f", "\u00e9", "\ufffd", "\U0001F600", "\xff", "\xed\xa0\x80", "\xc3")
}

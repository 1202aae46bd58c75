package utf

import (
	"strings"
	"unicode/utf8"

	"weir/api"
)

// What a letter behind a backslash means in a string of JSON stands at the same place of the second text.
const (
	jsonLetters = "btnfr"
	jsonMeans   = "\b\t\n\f\r"
)

// The halves of a rune above 0xFFFF: a number from firstHalf on, and behind it one from secondHalf on.
const (
	firstHalf  = 0xD800
	secondHalf = 0xDC00
	behindHalf = 0xE000
)

// Json: a text as a string of JSON.
func Json(s string) (string, api.Errno) {
	return written(s, writeJson)
}

// writeJson writes a rune as it stands in a string of JSON, as written asks it.
func writeJson(b []byte, r rune) []byte {
	if r == '"' || r == '\\' {
		return append(b, '\\', byte(r))
	}
	if i := strings.IndexRune(jsonMeans, r); i >= 0 {
		return append(b, '\\', jsonLetters[i])
	}
	if r < 0x20 {
		return appendHex(append(b, `\u00`...), byte(r))
	}
	return utf8.AppendRune(b, r)
}

// Unjson: the text that a string of JSON means.
func Unjson(lit string) (string, api.Errno) {
	if !Valid(lit) {
		return "", api.ErrUTF
	}
	if !strings.HasPrefix(lit, `"`) || holdsControl(lit) || !isLiteral(lit) {
		return "", api.ErrQuote
	}
	s, ok := meaning(lit[1:len(lit)-1], readJsonEscape)
	if !ok {
		return "", api.ErrEscape
	}
	return s, api.OK
}

// holdsControl: does a byte below 0x20 stand in s?
func holdsControl(s string) bool {
	for _, r := range s {
		if r < 0x20 {
			return true
		}
	}
	return false
}

// readJsonEscape reads the escapes of a string of JSON, as meaning asks it.
func readJsonEscape(b []byte, esc string) ([]byte, int) {
	c := esc[0]
	if c == 'u' {
		return readUnits(b, esc)
	}
	if c == '"' || c == '\\' || c == '/' {
		return append(b, c), 1
	}
	if i := strings.IndexByte(jsonLetters, c); i >= 0 {
		return append(b, jsonMeans[i]), 1
	}
	return b, 0
}

// readUnits reads an escape u with four digits, or two of them that are halves of one rune.
func readUnits(b []byte, esc string) ([]byte, int) {
	first, ok := number(esc[1:], 4, 16)
	if !ok || first < firstHalf || first >= secondHalf {
		return readRune(b, esc, 4)
	}
	rest, found := strings.CutPrefix(esc[5:], `\u`)
	second, ok := number(rest, 4, 16)
	if !found || !ok || second < secondHalf || second >= behindHalf {
		return b, 0
	}
	r := 0x10000 + (first-firstHalf)*0x400 + (second - secondHalf)
	return utf8.AppendRune(b, rune(r)), 11
}

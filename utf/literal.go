package utf

import (
	"strings"
	"unicode/utf8"

	"weir/api"
)

// What a letter behind a backslash means in a query's literal stands at the same place of the second text.
const (
	letters = "abtnvfr"
	means   = "\a\b\t\n\v\f\r"
)

// Literal: the place behind the literal that begins at the byte place at.
func Literal(s string, at int) (int, api.Errno) {
	if at < 0 || at >= len(s) {
		return 0, api.ErrQuote
	}
	end := -1
	switch quote := s[at]; quote {
	case '`':
		end = strings.IndexByte(s[at+1:], quote)
	case '"', '\'':
		end = closing(s[at+1:], quote)
	}
	if end < 0 {
		return 0, api.ErrQuote
	}
	return at + 1 + end + 1, api.OK
}

// closing: the place of the first quote that no backslash stands ahead of; -1, if the line or s ends sooner.
func closing(s string, quote byte) int {
	for i := 0; i < len(s); i++ {
		if s[i] == quote {
			return i
		}
		if s[i] == '\\' {
			i++
		}
		if i < len(s) && s[i] == '\n' { // behind a backslash too
			return -1
		}
	}
	return -1
}

// isLiteral: is lit one literal from its beginning to its end?
func isLiteral(lit string) bool {
	end, e := Literal(lit, 0)
	return e == api.OK && end == len(lit)
}

// Unquote: the text that a literal means.
func Unquote(lit string) (string, api.Errno) {
	if !Valid(lit) {
		return "", api.ErrUTF
	}
	if !isLiteral(lit) {
		return "", api.ErrQuote
	}
	quote, body := lit[0], lit[1:len(lit)-1]
	if quote == '`' {
		return strings.Clone(body), api.OK
	}
	s, ok := meaning(body, func(b []byte, esc string) ([]byte, int) {
		return readEscape(b, esc, quote)
	})
	if !ok {
		return "", api.ErrEscape
	}
	if !Valid(s) {
		return "", api.ErrValue
	}
	return s, api.OK
}

// meaning: what stands between the quotes of a literal, with its escapes read; false, if one of them is none. read puts behind b what the escape at the head of esc (without its backslash) means, and tells its length; 0: no escape stands there. esc is never empty: a backslash that begins an escape right ahead of the closing quote would have kept it from closing.
func meaning(body string, read func(b []byte, esc string) ([]byte, int)) (string, bool) {
	var b []byte
	for {
		plain, esc, found := strings.Cut(body, `\`)
		b = append(b, plain...)
		if !found {
			return string(b), true
		}
		var n int
		b, n = read(b, esc)
		if n == 0 {
			return "", false
		}
		body = esc[n:]
	}
}

// readEscape reads the escapes of a query's literal, as meaning asks it.
func readEscape(b []byte, esc string, quote byte) ([]byte, int) {
	c := esc[0]
	if c == '\\' || c == quote {
		return append(b, c), 1
	}
	if i := strings.IndexByte(letters, c); i >= 0 {
		return append(b, means[i]), 1
	}
	switch c {
	case 'x':
		return readByte(b, esc, 1, 2, 16)
	case 'u':
		return readRune(b, esc, 4)
	case 'U':
		return readRune(b, esc, 8)
	}
	return readByte(b, esc, 0, 3, 8)
}

// readByte reads an escape of digits of a base, from the place from on, that means one byte.
func readByte(b []byte, esc string, from, digits int, base uint32) ([]byte, int) {
	n, ok := number(esc[from:], digits, base)
	if !ok || n > 255 {
		return b, 0
	}
	return append(b, byte(n)), from + digits
}

// readRune reads an escape of one letter and hexadecimal digits that mean a rune.
func readRune(b []byte, esc string, digits int) ([]byte, int) {
	n, ok := number(esc[1:], digits, 16)
	if !ok || n > utf8.MaxRune || !utf8.ValidRune(rune(n)) {
		return b, 0
	}
	return utf8.AppendRune(b, rune(n)), 1 + digits
}

// number: the number that so many digits of a base at the head of s tell. (Eight hexadecimal digits just fit.)
func number(s string, digits int, base uint32) (uint32, bool) {
	if len(s) < digits {
		return 0, false
	}
	n := uint32(0)
	for _, r := range s[:digits] {
		d := digit(r)
		if d >= base {
			return 0, false
		}
		n = n*base + d
	}
	return n, true
}

// digit: the value of a hexadecimal digit; 16 of any other rune, which is above every base's digits.
func digit(r rune) uint32 {
	switch {
	case '0' <= r && r <= '9':
		return uint32(r - '0')
	case 'a' <= r && r <= 'f':
		return uint32(r-'a') + 10
	case 'A' <= r && r <= 'F':
		return uint32(r-'A') + 10
	}
	return 16
}

// Quote: the literal of a text, with the quote ".
func Quote(s string) (string, api.Errno) {
	return written(s, writeQuoted)
}

// written: a text between two ", each rune as write puts it behind b.
func written(s string, write func(b []byte, r rune) []byte) (string, api.Errno) {
	if !Valid(s) {
		return "", api.ErrUTF
	}
	b := make([]byte, 0, len(s)+2)
	b = append(b, '"')
	for _, r := range s {
		b = write(b, r)
	}
	return string(append(b, '"')), api.OK
}

// writeQuoted writes a rune as it stands in a query's literal, as written asks it.
func writeQuoted(b []byte, r rune) []byte {
	if r == '"' || r == '\\' {
		return append(b, '\\', byte(r))
	}
	if i := strings.IndexRune(means, r); i >= 0 {
		return append(b, '\\', letters[i])
	}
	if r < 0x20 || r == 0x7F {
		return appendHex(append(b, `\x`...), byte(r))
	}
	return utf8.AppendRune(b, r)
}

// appendHex puts two hexadecimal digits behind b.
func appendHex(b []byte, n byte) []byte {
	const digits = "0123456789abcdef"
	return append(b, digits[n>>4], digits[n&15])
}

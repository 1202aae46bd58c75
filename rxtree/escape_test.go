package rxtree_test

import (
	"strconv"
	"strings"
	"testing"

	"weir/api"
	"weir/rxtree"
)

// P8.1, rule 5: the escapes, each one.
func TestEscapes(t *testing.T) {
	t.Parallel()
	checkReadings(t, []reading{
		{`\A`, of(api.RxBegin)},
		{`\z`, of(api.RxEnd)},
		{`\b`, of(api.RxWord)},
		{`\B`, of(api.RxNotWord)},
		{`\d`, class('0', '9')},
		{`\D`, class(0, '0'-1, '9'+1, maxRune)},
		{`\s`, class(9, 10, 12, 13, 32, 32)},
		{`\S`, class(0, 8, 11, 11, 14, 31, 33, maxRune)},
		{`\w`, class('0', '9', 'A', 'Z', '_', '_', 'a', 'z')},
		{`\W`, class(0, '0'-1, '9'+1, 'A'-1, 'Z'+1, '_'-1, '_'+1, 'a'-1, 'z'+1, maxRune)},
		{`\a\f\t\n\r\v`, cat(lit(7), lit(12), lit(9), lit(10), lit(13), lit(11))},
		{`\x00`, lit(0)},
		{`\x41`, lit('A')},
		{`\xff`, lit(0xFF)},
		{`\xFF`, lit(0xFF)},
		{`\xaB`, lit(0xAB)},
		{`\x412`, cat(lit('A'), lit('2'))},
		{`\x{0}`, lit(0)},
		{`\x{41}`, lit('A')},
		{`\x{041}`, lit('A')},
		{`\x{10ffff}`, lit(maxRune)},
		{`\x{10FFFF}`, lit(maxRune)},
		{`\x{d800}`, lit(0xD800)},
		{`\x{DFFF}`, lit(0xDFFF)},
		{`\x{` + strings.Repeat("0", 4000) + `41}`, lit('A')},
		{`\x{0000000010ffff}`, lit(maxRune)},
		{`\.\*\\`, cat(lit('.'), lit('*'), lit('\\'))},
		{"\\\n", lit('\n')},
		{"\\\x00", lit(0)},
		{"\\\x7f", lit(127)},
		{`\_`, lit('_')},
		{`\ `, lit(' ')},
		{`\-`, lit('-')},
		{`\"`, lit('"')},
		{`\x2a+`, rep(1, -1, lit('*'))},
		{`\x{2a}{2}`, rep(2, 2, lit('*'))},
		{`(?i)\d\w`, cat(class('0', '9'), class('0', '9', 'A', 'Z', '_', '_', 'a', 'z'))},
		{`(?s)\D`, class(0, '0'-1, '9'+1, maxRune)},
	})
	checkRefusals(t, []refusal{
		{`\`, api.ErrRxEscape}, {`a\`, api.ErrRxEscape}, {`\\\`, api.ErrRxEscape}, {`\1`, api.ErrRxEscape}, {`\0`, api.ErrRxEscape}, {`\8`, api.ErrRxEscape}, {`\012`, api.ErrRxEscape},
		{`\E`, api.ErrRxEscape}, {`a\Eb`, api.ErrRxEscape}, {`\Z`, api.ErrRxEscape}, {`\G`, api.ErrRxEscape}, {`\C`, api.ErrRxEscape}, {`\pL`, api.ErrRxEscape}, {`\p{Greek}`, api.ErrRxEscape}, {`\u0041`, api.ErrRxEscape}, {`\k<x>`, api.ErrRxEscape}, {`\h`, api.ErrRxEscape}, {`\e`, api.ErrRxEscape},
		{`\x`, api.ErrRxEscape}, {`\x4`, api.ErrRxEscape}, {`\x4g`, api.ErrRxEscape}, {`\xg4`, api.ErrRxEscape}, {`\x 4`, api.ErrRxEscape}, {`\x{`, api.ErrRxEscape}, {`\x{}`, api.ErrRxEscape}, {`\x{41`, api.ErrRxEscape}, {`\x{4 1}`, api.ErrRxEscape}, {`\x{g}`, api.ErrRxEscape}, {`\x{41g}`, api.ErrRxEscape},
		{`\x{110000}`, api.ErrRxEscape}, {`\x{ffffffff}`, api.ErrRxEscape}, {`\x{100000041}`, api.ErrRxEscape}, {`\x{10000000000000041}`, api.ErrRxEscape}, {`\x{` + strings.Repeat("f", 4000) + `}`, api.ErrRxEscape}, {`\X41`, api.ErrRxEscape},
		{`\é`, api.ErrRxEscape}, {"\\\u0080", api.ErrRxEscape}, {"\\\uFFFD", api.ErrRxEscape}, {`\٣`, api.ErrRxEscape},
	})
	checkAll(t, texts(5, `\`, "x", "{", "}", "4", "f", "g", "*", "]", "["))
}

// P8.1, rule 5: a backslash ahead of each rune, outside of a class, within one, and at both ends of a range.
func TestEachEscape(t *testing.T) {
	for r := range rune(0x300) {
		for _, form := range []string{`\%`, `a\%b`, `(\%)+`, `(?i)\%`, `[\%]`, `[a\%]`, `[^\%]`, `[\%-\x{10ffff}]`, `[\x{0}-\%]`, `[\%-]`, `[\%--]`, `(?i)[^\%]`, `\%{2}`, `[\%-\d]`, `[\%`, `[\x{0}-\%`} {
			checkParse(t, strings.ReplaceAll(form, "%", string(r)))
		}
	}
}

// P8.1, rule 5: every number that hexadecimal digits may say.
func TestEachHexadecimal(t *testing.T) {
	for n := range 256 {
		two := strconv.FormatInt(int64(n|0x100), 16)[1:]
		for _, h := range []string{two, strings.ToUpper(two)} {
			checkReadings(t, []reading{{`\x` + h, lit(rune(n))}, {`[\x` + h + `]`, lit(rune(n))}, {`\x{` + h + `}`, lit(rune(n))}})
		}
	}
	for n := 0; n < 0x120000; n += 1 + n/300 {
		h := strconv.FormatInt(int64(n), 16)
		x, e := rxtree.Parse(`\x{` + h + `}`)
		y, f := rxtree.Parse(`[\x{` + strings.ToUpper(h) + `}]`)
		if n > maxRune && (e != api.ErrRxEscape || f != api.ErrRxEscape) {
			t.Fatalf("%x: %d, %d", n, e, f)
		}
		if n <= maxRune && (e != api.OK || f != api.OK || !same(x, lit(rune(n))) || !same(y, x)) {
			t.Fatalf("%x: %v, %d; %v, %d", n, x, e, y, f)
		}
	}
	for r := range rune(0x300) {
		for _, form := range []string{`\x%4`, `\x4%`, `\x{%}`, `\x{4%}`, `\x{%4}`, `[\x%4]`, `[\x{4%}]`} {
			checkParse(t, strings.ReplaceAll(form, "%", string(r)))
		}
	}
	for n := maxRune - 3; n < maxRune+20; n++ {
		checkParse(t, `\x{`+strconv.FormatInt(int64(n), 16)+`}`)
	}
}

// P8.1, rule 5: quotations, ended and not.
func TestQuotations(t *testing.T) {
	t.Parallel()
	a, b := lit('a'), lit('b')
	checkReadings(t, []reading{
		{`\Q\E`, empty()},
		{`\Q`, empty()},
		{`a\Q\Eb`, cat(a, b)},
		{`a\Q`, a},
		{`\Qa`, a},
		{`\Qab`, cat(a, b)},
		{`\Qab\E`, cat(a, b)},
		{`\Qa\Eb`, cat(a, b)},
		{`a\Qb\E`, cat(a, b)},
		{`\Qab\E*`, cat(a, rep(0, -1, b))},
		{`\Qab\E{2}?`, cat(a, lazy(2, 2, b))},
		{`\Qa\E|\Qb\E`, alt(a, b)},
		{`(\Qa)\E)`, group(1, "", cat(a, lit(')')))},
		{`\Q.|()[]{}*+?^$\E`, row(`.|()[]{}*+?^$`)},
		{`\Qa\b\E`, cat(a, lit('\\'), b)},
		{`\Q\\E`, lit('\\')},
		{`\Q\\\E`, cat(lit('\\'), lit('\\'))},
		{`\Qa\`, cat(a, lit('\\'))},
		{`\Q\Q\E`, cat(lit('\\'), lit('Q'))},
		{`\Q\e`, cat(lit('\\'), lit('e'))},
		{`\Qa*`, cat(a, lit('*'))},
		{`\Qa\E\Qb\E`, cat(a, b)},
		{`\Q` + "\n\u00e9\U0001F600" + `\E`, cat(lit(10), lit(0xE9), lit(0x1F600))},
		{`(?i)\Qa1\E`, cat(class('A', 'A', 'a', 'a'), lit('1'))},
		{`(?:\Q\E)*`, rep(0, -1, empty())},
		{`\Q(?i)\E`, row(`(?i)`)},
		{`\Q[a`, row(`[a`)},
	})
	checkRefusals(t, []refusal{
		{`\Qa\E\E`, api.ErrRxEscape}, {`\Q\E\E`, api.ErrRxEscape}, {`[\Qa\E]`, api.ErrRxEscape}, {`[a\Q]\E]`, api.ErrRxEscape}, {`[a\E]`, api.ErrRxEscape}, {`[a-\Qz\E]`, api.ErrRxEscape}, {`(\Qa)`, api.ErrRxBrackets}, {`\Qa\E)`, api.ErrRxBrackets},
	})
	checkAll(t, texts(6, `\`, "Q", "E", "a", "*", `\Q`))
}

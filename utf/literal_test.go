package utf_test

import (
	"math"
	"regexp"
	"strconv"
	"strings"
	"testing"

	"weir/api"
	"weir/utf"
)

// literalForm: a literal at the head of a text, as one pattern.
var literalForm = regexp.MustCompile("^(?:\"(?:[^\"\\\\\n]|\\\\[^\n])*\"|'(?:[^'\\\\\n]|\\\\[^\n])*'|`[^`]*`)")

// P1.5

func TestLiteralExamples(t *testing.T) {
	for _, c := range []struct {
		s   string
		at  int
		end int
		e   api.Errno
	}{
		{`x"a\"b"c`, 1, 7, api.OK},
		{`""`, 0, 2, api.OK},
		{`''`, 0, 2, api.OK},
		{"``", 0, 2, api.OK},
		{`"'` + "`" + `"`, 0, 4, api.OK},
		{`'"'x`, 0, 3, api.OK},
		{"`a\\`b`", 0, 4, api.OK},
		{"`a\nb`", 0, 5, api.OK},
		{`"\q\xzz\999"`, 0, 12, api.OK},
		{"\"\xff\"", 0, 3, api.OK},
		{"'\\\xff'", 0, 4, api.OK},
		{`"\\"`, 0, 4, api.OK},
		{"\"\\\u00e9\"", 0, 5, api.OK},
		{`"\`, 0, 0, api.ErrQuote},
		{`"\"`, 0, 0, api.ErrQuote},
		{`"a'`, 0, 0, api.ErrQuote},
		{`"`, 0, 0, api.ErrQuote},
		{`'`, 0, 0, api.ErrQuote},
		{"`", 0, 0, api.ErrQuote},
		{"`a", 0, 0, api.ErrQuote},
		{"\"a\nb\"", 0, 0, api.ErrQuote},
		{"\"a\\\nb\"", 0, 0, api.ErrQuote},
		{"'a\nb'", 0, 0, api.ErrQuote},
		{"'\\\n'", 0, 0, api.ErrQuote},
		{"abc", 0, 0, api.ErrQuote},
		{`"a"b`, 3, 0, api.ErrQuote},
		{`""`, 2, 0, api.ErrQuote},
		{`""`, 3, 0, api.ErrQuote},
		{`""`, -1, 0, api.ErrQuote},
		{`""`, math.MaxInt, 0, api.ErrQuote},
		{`""`, math.MinInt, 0, api.ErrQuote},
		{"", 0, 0, api.ErrQuote},
	} {
		if end, e := utf.Literal(c.s, c.at); end != c.end || e != c.e {
			t.Errorf("Literal(%q, %d) = %d, %d, not %d, %d", c.s, c.at, end, e, c.end, c.e)
		}
	}
}

func TestLiteralByPattern(t *testing.T) {
	for s := range texts(5, `"`, `'`, "`", `\`, "\n", "a", "\u00e9", "\xff") {
		for at := range len(s) + 1 {
			want, wantE := 0, api.ErrQuote
			if m := literalForm.FindString(s[at:]); m != "" {
				want, wantE = at+len(m), api.OK
			}
			if end, e := utf.Literal(s, at); end != want || e != wantE {
				t.Fatalf("Literal(%q, %d) = %d, %d, not %d, %d", s, at, end, e, want, wantE)
			}
		}
	}
}

func TestUnquoteMeanings(t *testing.T) {
	for lit, want := range map[string]string{
		`""`:                         "",
		`''`:                         "",
		"``":                         "",
		`"abc"`:                      "abc",
		`'a"b'`:                      `a"b`,
		`"a'b"`:                      "a'b",
		"`a\\n\"'\nb`":               "a\\n\"'\nb",
		"`a\rb`":                     "a\rb",
		"`\\`":                       `\`,
		`"\a\b\t\n\v\f\r"`:           "\x07\x08\x09\x0a\x0b\x0c\x0d",
		`'\a\b\t\n\v\f\r'`:           "\x07\x08\x09\x0a\x0b\x0c\x0d",
		`"\\\""`:                     `\"`,
		`'\\\''`:                     `\'`,
		`"\000\101\177"`:             "\x00A\x7f",
		`"\303\251"`:                 "\u00e9",
		`"\xc3\251"`:                 "\u00e9",
		`"\xC3\xa9"`:                 "\u00e9",
		`"\xf0\x9f\x98\x80"`:         "\U0001F600",
		`"\x41\x4a\x4A"`:             "AJJ",
		`"\1012"`:                    "A2",
		`"\x41B"`:                    "AB",
		`"\u00e9\u00E9\u20ac"`:       "\u00e9\u00e9\u20ac",
		`"\ud7ff\ue000\uffff"`:       "\ud7ff\ue000\uffff",
		`"\U0001f600\U0010FFFF"`:     "\U0001F600\U0010FFFF",
		"\"\u00e9\t\x01\x7f\ufffd\"": "\u00e9\t\x01\x7f\ufffd",
	} {
		if s, e := utf.Unquote(lit); s != want || e != api.OK {
			t.Errorf("Unquote(%q) = %q, %d, not %q", lit, s, e, want)
		}
	}
}

func TestUnquoteErrors(t *testing.T) {
	for lit, want := range map[string]api.Errno{
		"":                      api.ErrQuote,
		"abc":                   api.ErrQuote,
		`"`:                     api.ErrQuote,
		`"a`:                    api.ErrQuote,
		`"a"b`:                  api.ErrQuote,
		` "a"`:                  api.ErrQuote,
		`"a"""`:                 api.ErrQuote,
		`"\"`:                   api.ErrQuote,
		"\"\n\"":                api.ErrQuote,
		"`a``":                  api.ErrQuote,
		"\"\xff\"":              api.ErrUTF,
		"`\xff`":                api.ErrUTF,
		`'\"'`:                  api.ErrEscape,
		`"\'"`:                  api.ErrEscape,
		`"\q"`:                  api.ErrEscape,
		`"\A"`:                  api.ErrEscape,
		`"\` + "`" + `"`:        api.ErrEscape,
		`"\/"`:                  api.ErrEscape,
		"\"\\\u00e9\"":          api.ErrEscape,
		`"\400"`:                api.ErrEscape,
		`"\777"`:                api.ErrEscape,
		`"\08"`:                 api.ErrEscape,
		`"\0"`:                  api.ErrEscape,
		`"\00"`:                 api.ErrEscape,
		`"\008"`:                api.ErrEscape,
		`"\8"`:                  api.ErrEscape,
		`"\x"`:                  api.ErrEscape,
		`"\x4"`:                 api.ErrEscape,
		`"\x4g"`:                api.ErrEscape,
		`"\X41"`:                api.ErrEscape,
		`"\u00e"`:               api.ErrEscape,
		`"\u+0e9"`:              api.ErrEscape,
		"\"\\u0\u00e90\"":       api.ErrEscape,
		`"\ud800"`:              api.ErrEscape,
		`"\uDFFF"`:              api.ErrEscape,
		`"\ud83d\ude00"`:        api.ErrEscape,
		`"\U0000d800"`:          api.ErrEscape,
		`"\U00110000"`:          api.ErrEscape,
		`"\U80000041"`:          api.ErrEscape,
		`"\UFFFFFFFF"`:          api.ErrEscape,
		`"\U0001F60"`:           api.ErrEscape,
		`"\303"`:                api.ErrValue,
		`"\xff"`:                api.ErrValue,
		`"\377"`:                api.ErrValue,
		`"\xed\xa0\x80"`:        api.ErrValue,
		`"\xc3a\xa9"`:           api.ErrValue,
		"\"\xff":                api.ErrUTF,    // ahead of ErrQuote
		"\"\\q\xff\"":           api.ErrUTF,    // ahead of ErrEscape
		`"\q"x`:                 api.ErrQuote,  // ahead of ErrEscape
		`"\xff\q"`:              api.ErrEscape, // ahead of ErrValue, wherever it stands
		`"\xff"x`:               api.ErrQuote,  // ahead of ErrValue
		"\"\u00e9\\251\u00e9\"": api.ErrValue,
	} {
		if s, e := utf.Unquote(lit); s != "" || e != want {
			t.Errorf("Unquote(%q) = %q, %d, not %d", lit, s, e, want)
		}
	}
}

// unquote: what a literal means, by the library's reading of Go's literals, which has the same escapes.
func unquote(lit string) (string, api.Errno) {
	if _, _, fine := runes(lit); !fine {
		return "", api.ErrUTF
	}
	if lit == "" || literalForm.FindString(lit) != lit {
		return "", api.ErrQuote
	}
	if lit[0] == '`' {
		return lit[1 : len(lit)-1], api.OK
	}
	swap := strings.NewReplacer(`"`, `'`, `'`, `"`)
	turned := lit[0] == '\''
	if turned { // in Go this quote is for one rune alone
		lit = swap.Replace(lit)
	}
	s, err := strconv.Unquote(lit)
	if err != nil {
		return "", api.ErrEscape
	}
	if turned { // (no test here hands in an escape of digits that means a quote)
		s = swap.Replace(s)
	}
	if _, _, fine := runes(s); !fine {
		return "", api.ErrValue
	}
	return s, api.OK
}

func checkUnquote(t *testing.T, lit string) {
	t.Helper()
	s, e := utf.Unquote(lit)
	if want, wantE := unquote(lit); s != want || e != wantE {
		t.Fatalf("Unquote(%q) = %q, %d, not %q, %d", lit, s, e, want, wantE)
	}
}

func TestUnquoteByLibrary(t *testing.T) {
	for s := range texts(4, `\`, `"`, `'`, "`", "\n", "\xff", "\u00e9", "a", "x", "u", "U000", "0", "3", "8", "e9", "\\xc3") {
		for _, quote := range []string{`"`, `'`, "`"} {
			checkUnquote(t, quote+s+quote)
		}
		checkUnquote(t, s)
	}
}

func TestUnquoteEachEscapeOfAByte(t *testing.T) {
	for b := range 512 {
		octal := "00" + strconv.FormatInt(int64(b), 8)
		checkUnquote(t, `"\`+octal[len(octal)-3:]+`"`)
		hex := "00" + strconv.FormatInt(int64(b%256), 16)
		checkUnquote(t, `"\x`+hex[len(hex)-2:]+`"`)
		checkUnquote(t, `"\xC3\x`+strings.ToUpper(hex[len(hex)-2:])+`"`)
		checkUnquote(t, `"\`+string([]byte{byte(b % 256)})+`"`)
	}
}

func TestUnquoteEachEscapeOfARune(t *testing.T) {
	for r := rune(0); r <= 0x110200; r++ {
		hex := "0000000" + strconv.FormatInt(int64(r), 16)
		lits := []string{`"\U` + hex[len(hex)-8:] + `"`}
		if r <= 0xFFFF {
			lits = append(lits, `"\u`+hex[len(hex)-4:]+`"`)
		}
		want, wantE := "", api.ErrEscape
		if isRune(r) {
			want, wantE = form(r), api.OK
		}
		for _, lit := range lits {
			if s, e := utf.Unquote(lit); s != want || e != wantE {
				t.Fatalf("Unquote(%q) = %q, %d", lit, s, e)
			}
		}
	}
}

// P1.6

func TestQuoteExamples(t *testing.T) {
	for s, want := range map[string]string{
		"":                             `""`,
		"abc":                          `"abc"`,
		"\x22\x5c\x09\x01\x41":         `"\"\\\t\x01A"`,
		"\x06\a\b\t\n\v\f\r\x0e":       `"\x06\a\b\t\n\v\f\r\x0e"`,
		"\x00\x1f \x7e\x7f":            `"\x00\x1f ~\x7f"`,
		"'`/":                          "\"'`/\"",
		"\u0080\u00e9\u2028\U0010FFFF": "\"\u0080\u00e9\u2028\U0010FFFF\"",
		"\ufffd":                       "\"\ufffd\"",
	} {
		if lit, e := utf.Quote(s); lit != want || e != api.OK {
			t.Errorf("Quote(%q) = %s, %d, not %s", s, lit, e, want)
		}
	}
	for _, s := range []string{"\xff", "a\xc3", "\xed\xa0\x80"} {
		if lit, e := utf.Quote(s); lit != "" || e != api.ErrUTF {
			t.Errorf("Quote(%q) = %s, %d", s, lit, e)
		}
	}
}

// quotedRune: a rune as Quote writes it, by the chapter's list.
func quotedRune(r rune) string {
	switch {
	case r >= 7 && r <= 13:
		return `\` + string("abtnvfr"[r-7])
	case r == '"', r == '\\':
		return `\` + form(r)
	case r < 0x10:
		return `\x0` + strconv.FormatInt(int64(r), 16)
	case r < 0x20, r == 0x7F:
		return `\x` + strconv.FormatInt(int64(r), 16)
	}
	return form(r)
}

func TestQuoteEachRune(t *testing.T) {
	for r := rune(0); r <= lastRune; r++ {
		if !isRune(r) {
			continue
		}
		if lit, e := utf.Quote(form(r)); lit != `"`+quotedRune(r)+`"` || e != api.OK {
			t.Fatalf("Quote of the rune %#x = %s, %d", r, lit, e)
		}
	}
}

func TestQuoteAndBack(t *testing.T) {
	for s := range someTexts() {
		lit, e := utf.Quote(s)
		rs, _, fine := runes(s)
		if !fine {
			if lit != "" || e != api.ErrUTF {
				t.Fatalf("Quote(%q) = %s, %d", s, lit, e)
			}
			continue
		}
		want := `"`
		for _, r := range rs {
			want += quotedRune(r)
		}
		if lit != want+`"` || e != api.OK {
			t.Fatalf("Quote(%q) = %s, %d", s, lit, e)
		}
		if back, e := utf.Unquote(lit); back != s || e != api.OK {
			t.Fatalf("Unquote(%s) = %q, %d, not %q", lit, back, e, s)
		}
		for _, rest := range []string{"", `"`, `\`, "a", "\n", "\xff", `'"`} {
			if end, e := utf.Literal(lit+rest, 0); end != len(lit) || e != api.OK {
				t.Fatalf("Literal(%q, 0) = %d, %d, not %d", lit+rest, end, e, len(lit))
			}
		}
	}
}

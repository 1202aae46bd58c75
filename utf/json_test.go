package utf_test

import (
	"encoding/json"
	"regexp"
	"strconv"
	"testing"

	"weir/api"
	"weir/utf"
)

// P1.7

func TestJsonExamples(t *testing.T) {
	for s, want := range map[string]string{
		"":                             `""`,
		"abc":                          `"abc"`,
		"\x22\x5c\x09\x01\x41":         `"\"\\\t\u0001A"`,
		"\b\t\n\f\r":                   `"\b\t\n\f\r"`,
		"\x00\a\v\x0e\x1f":             `"\u0000\u0007\u000b\u000e\u001f"`,
		" /'<>&\x7f":                   "\" /'<>&\x7f\"",
		"\u0080\u2028\U0001F600\ufffd": "\"\u0080\u2028\U0001F600\ufffd\"",
	} {
		if lit, e := utf.Json(s); lit != want || e != api.OK {
			t.Errorf("Json(%q) = %s, %d, not %s", s, lit, e, want)
		}
	}
	for _, s := range []string{"\xff", "a\xc3", "\xed\xa0\x80"} {
		if lit, e := utf.Json(s); lit != "" || e != api.ErrUTF {
			t.Errorf("Json(%q) = %s, %d", s, lit, e)
		}
	}
}

// jsonRune: a rune as Json writes it, by the chapter's list.
func jsonRune(r rune) string {
	switch r {
	case '"', '\\':
		return `\` + form(r)
	case 8:
		return `\b`
	case 9:
		return `\t`
	case 10:
		return `\n`
	case 12:
		return `\f`
	case 13:
		return `\r`
	}
	if r < 0x20 {
		hex := "0" + strconv.FormatInt(int64(r), 16)
		return `\u00` + hex[len(hex)-2:]
	}
	return form(r)
}

func TestJsonEachRune(t *testing.T) {
	for r := rune(0); r <= lastRune; r++ {
		if !isRune(r) {
			continue
		}
		if lit, e := utf.Json(form(r)); lit != `"`+jsonRune(r)+`"` || e != api.OK {
			t.Fatalf("Json of the rune %#x = %s, %d", r, lit, e)
		}
	}
}

func TestJsonAndBack(t *testing.T) {
	for s := range someTexts() {
		lit, e := utf.Json(s)
		rs, _, fine := runes(s)
		if !fine {
			if lit != "" || e != api.ErrUTF {
				t.Fatalf("Json(%q) = %s, %d", s, lit, e)
			}
			continue
		}
		want := `"`
		for _, r := range rs {
			want += jsonRune(r)
		}
		if lit != want+`"` || e != api.OK {
			t.Fatalf("Json(%q) = %s, %d", s, lit, e)
		}
		if back, e := utf.Unjson(lit); back != s || e != api.OK {
			t.Fatalf("Unjson(%s) = %q, %d, not %q", lit, back, e, s)
		}
	}
}

func TestUnjsonMeanings(t *testing.T) {
	for lit, want := range map[string]string{
		`""`:                         "",
		`"abc"`:                      "abc",
		`"\"\\\/"`:                   `"\/`,
		`"\b\t\n\f\r"`:               "\b\t\n\f\r",
		`"\u0041\u00e9\u00E9"`:       "A\u00e9\u00e9",
		`"\u0000\ud7ff\ue000\uffff"`: "\x00\ud7ff\ue000\uffff",
		`"\ud83d\ude00"`:             "\U0001F600",
		`"\uD83D\uDE00x"`:            "\U0001F600x",
		`"\ud800\udc00\udbff\udfff"`: "\U00010000\U0010FFFF",
		`"\u00411"`:                  "A1",
		"\"'`\x7f\u00e9\ufffd\"":     "'`\x7f\u00e9\ufffd",
		`"/"`:                        "/",
	} {
		if s, e := utf.Unjson(lit); s != want || e != api.OK {
			t.Errorf("Unjson(%q) = %q, %d, not %q", lit, s, e, want)
		}
	}
}

func TestUnjsonErrors(t *testing.T) {
	for lit, want := range map[string]api.Errno{
		"":                       api.ErrQuote,
		"abc":                    api.ErrQuote,
		"null":                   api.ErrQuote,
		`'a'`:                    api.ErrQuote,
		"`a`":                    api.ErrQuote,
		`"`:                      api.ErrQuote,
		`"a`:                     api.ErrQuote,
		`"\`:                     api.ErrQuote,
		`"\"`:                    api.ErrQuote,
		`"a"b"`:                  api.ErrQuote,
		`"a" `:                   api.ErrQuote,
		` "a"`:                   api.ErrQuote,
		"\"a\n\"":                api.ErrQuote,
		"\"\x00\"":               api.ErrQuote,
		"\"\x1f\"":               api.ErrQuote,
		"\"\\\x1f\"":             api.ErrQuote,
		"\"\"\n":                 api.ErrQuote,
		"\"\xff\"":               api.ErrUTF,
		`"\a"`:                   api.ErrEscape,
		`"\v"`:                   api.ErrEscape,
		`"\'"`:                   api.ErrEscape,
		`"\0"`:                   api.ErrEscape,
		`"\x41"`:                 api.ErrEscape,
		`"\U00000041"`:           api.ErrEscape,
		"\"\\\u00e9\"":           api.ErrEscape,
		`"\u"`:                   api.ErrEscape,
		`"\u004"`:                api.ErrEscape,
		`"\u004g"`:               api.ErrEscape,
		`"\ud83d"`:               api.ErrEscape,
		`"\ude00"`:               api.ErrEscape,
		`"\ude00\ud83d"`:         api.ErrEscape,
		`"\ud83d\ud83d\ude00"`:   api.ErrEscape,
		`"\ud83d\ude00\ude00"`:   api.ErrEscape,
		`"\ud83dx\ude00"`:        api.ErrEscape,
		`"\ud83d\n"`:             api.ErrEscape,
		`"\ud83d\u0041"`:         api.ErrEscape,
		`"\ud83d\udbff"`:         api.ErrEscape,
		`"\ud83d\ue000"`:         api.ErrEscape,
		`"\ud83d\ude0"`:          api.ErrEscape,
		`"\ud83d\u"`:             api.ErrEscape,
		`"\ud83d\"`:              api.ErrQuote,
		"\"\xff":                 api.ErrUTF,   // ahead of ErrQuote
		"\"\\a\xff\"":            api.ErrUTF,   // ahead of ErrEscape
		`"\a"x`:                  api.ErrQuote, // ahead of ErrEscape
		"\"\\a\t\"":              api.ErrQuote, // ahead of ErrEscape
		"\"\\ud83d\ufffd\\ude00": api.ErrQuote,
	} {
		if s, e := utf.Unjson(lit); s != "" || e != want {
			t.Errorf("Unjson(%q) = %q, %d, not %d", lit, s, e, want)
		}
	}
}

// The two conditions of Unjson as patterns over the whole text.
var (
	jsonShut = regexp.MustCompile(`^"(?:[^"\\\x00-\x1f]|\\[^\x00-\x1f])*"\z`)
	jsonFine = regexp.MustCompile(`^"(?:[^"\\]|\\["\\/btnfr]` +
		`|\\u[dD][89abAB][0-9a-fA-F]{2}\\u[dD][c-fC-F][0-9a-fA-F]{2}` +
		`|\\u(?:[0-9a-ce-fA-CE-F][0-9a-fA-F]|[dD][0-7])[0-9a-fA-F]{2})*"\z`)
)

// unjson: what a string of JSON means, by patterns and the library.
func unjson(t *testing.T, lit string) (string, api.Errno) {
	if _, _, fine := runes(lit); !fine {
		return "", api.ErrUTF
	}
	if !jsonShut.MatchString(lit) {
		return "", api.ErrQuote
	}
	if !jsonFine.MatchString(lit) {
		return "", api.ErrEscape
	}
	var s string
	if err := json.Unmarshal([]byte(lit), &s); err != nil {
		t.Fatalf("the library does not take %q: %v", lit, err)
	}
	return s, api.OK
}

func checkUnjson(t *testing.T, lit string) {
	t.Helper()
	s, e := utf.Unjson(lit)
	if want, wantE := unjson(t, lit); s != want || e != wantE {
		t.Fatalf("Unjson(%q) = %q, %d, not %q, %d", lit, s, e, want, wantE)
	}
}

func TestUnjsonByLibrary(t *testing.T) {
	for s := range texts(4, `\`, `"`, "/", "\x1f", "\n", "\xff", "\u00e9", "a", "b", `\u`, "00e9", `\ud83d`, `\uDE00`, `\udbf`, "\x7f") {
		checkUnjson(t, `"`+s+`"`)
		checkUnjson(t, s)
	}
}

func TestUnjsonEachUnit(t *testing.T) {
	for n := range 0x10000 {
		hex := "000" + strconv.FormatInt(int64(n), 16)
		unit := `\u` + hex[len(hex)-4:]
		checkUnjson(t, `"`+unit+`"`)
		checkUnjson(t, `"`+unit+`\udc00"`)
		checkUnjson(t, `"\ud800`+unit+`"`)
	}
	for b := range 256 {
		checkUnjson(t, `"\`+string([]byte{byte(b)})+`"`)
	}
}

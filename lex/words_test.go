package lex_test

import (
	"iter"
	"math/rand/v2"
	"regexp"
	"strings"

	"weir/api"
	"weir/num"
	"weir/span"
	"weir/utf"
)

// The chapter's words, written down a second time and in another way (by the library's regexes), to hold the package against.

// pattern: a regex that takes the longest beginning of a text that it can.
func pattern(text string) *regexp.Regexp {
	re := regexp.MustCompile(`\A(?:` + text + `)`)
	re.Longest()
	return re
}

var (
	gaps      = pattern(`[\x09\x0A\x0D\x20]|#[^\x0A]*`)
	freeNames = pattern(`[A-Za-z_:][A-Za-z0-9_:]*`)
	heldNames = pattern(`[A-Za-z_][A-Za-z0-9_]*`)
	infOrNan  = regexp.MustCompile(`\A(?:[iI][nN][fF]|[nN][aA][nN])\z`)
	numbers   = pattern(`0[xX][0-9a-fA-F]+|(?:[0-9]+(?:\.[0-9]*)?|\.[0-9]+)(?:[eE][-+]?[0-9]+)?`)
	spans     = pattern(`(?:[0-9]+y)?(?:[0-9]+w)?(?:[0-9]+d)?(?:[0-9]+h)?(?:[0-9]+m)?(?:[0-9]+s)?(?:[0-9]+ms)?`)
	behind    = pattern(`[A-Za-z0-9_.]`)
	begins    = pattern(`\.?[0-9]`)
	strings3  = pattern("\"(?:[^\"\\\\\\n]|\\\\[^\\n])*\"|'(?:[^'\\\\\\n]|\\\\[^\\n])*'|`[^`]*`")
	operators = pattern(`\(|\)|\{|\}|\[|\]|,|:|=|==|!=|=~|!~|<|<=|>|>=|\+|-|\*|/|%|\^|@`)
)

// An answer of Scan.
type answer struct {
	toks []api.Token
	at   int
	e    api.Errno
}

// scan: what the chapter says that Scan answers.
func scan(text string) answer {
	if len(text) > api.MaxText {
		return answer{e: api.ErrLong}
	}
	var toks []api.Token
	for at := 0; at < len(text); {
		if skip := gaps.FindString(text[at:]); skip != "" {
			at += len(skip)
			continue
		}
		kind, tok, e := first(text[at:], standsIn(toks, "{", "}"), standsIn(toks, "[", "]"))
		if e != api.OK {
			return answer{at: at, e: e}
		}
		toks = append(toks, api.Token{Kind: kind, Text: tok, At: at})
		at += len(tok)
	}
	return answer{toks: toks}
}

// standsIn: of the tokens that open and close, is the last one of those that open?
func standsIn(toks []api.Token, opens, closes string) bool {
	for i := len(toks) - 1; i >= 0; i-- {
		if t := toks[i]; t.Kind == api.TokOp && (t.Text == opens || t.Text == closes) {
			return t.Text == opens
		}
	}
	return false
}

// first: the token at the head of a text that begins with no gap.
func first(rest string, braces, squares bool) (int, string, api.Errno) {
	names := freeNames
	if braces || squares {
		names = heldNames
	}
	if name := names.FindString(rest); name != "" {
		return nameKind(name, braces), name, api.OK
	}
	if begins.MatchString(rest) {
		return firstNumber(rest)
	}
	if strings.ContainsAny(rest[:1], "\"'`") {
		lit := strings3.FindString(rest)
		if _, e := utf.Unquote(lit); e != api.OK {
			return 0, "", api.ErrLiteral
		}
		return api.TokString, lit, api.OK
	}
	if op := operators.FindString(rest); op != "" {
		return api.TokOp, op, api.OK
	}
	return 0, "", api.ErrChar
}

func nameKind(name string, braces bool) int {
	if strings.Count(name, ":") > 0 {
		return api.TokMetric
	}
	if infOrNan.MatchString(name) && !braces {
		return api.TokNumber
	}
	return api.TokName
}

func firstNumber(rest string) (int, string, api.Errno) {
	n, d := numbers.FindString(rest), spans.FindString(rest)
	kind, lexeme := api.TokNumber, n
	_, e := num.Read(n)
	if len(d) > len(n) {
		kind, lexeme = api.TokSpan, d
		_, e = span.Parse(d)
	}
	if e != api.OK || behind.MatchString(rest[len(lexeme):]) {
		return 0, "", api.ErrLexeme
	}
	return kind, lexeme, api.OK
}

// texts: every way to lay at most so many of the pieces one behind another, the empty text first.
func texts(most int, pieces ...string) iter.Seq[string] {
	return func(yield func(string) bool) {
		level := []string{""}
		for n := 0; ; n++ {
			for _, s := range level {
				if !yield(s) {
					return
				}
			}
			if n == most {
				return
			}
			level = longer(level, pieces)
		}
	}
}

func longer(level, pieces []string) []string {
	var out []string
	for _, s := range level {
		for _, p := range pieces {
			out = append(out, s+p)
		}
	}
	return out
}

// states: what brings one outside of all brackets, inside of either kind, and inside of both, each in more ways than one.
func states() []string {
	return []string{"", "{", "[", "{[", "{}", "[]", "{{}", "[[]", "{[}", "{[]", "]}", "[{]", "}{"}
}

// eachByte: the texts of one byte.
func eachByte() []string {
	var out []string
	for b := range 256 {
		out = append(out, string([]byte{byte(b)}))
	}
	return out
}

// pieces: what query texts are made of, and what goes wrong in them.
func pieces() []string {
	return []string{
		"a", "Zz9", "_", "up", "by", "inf", "NaN", "iNf", "nan_", "infinity", "a:b", ":", "::", ":5", "job:x:",
		"0", "7", "007", "1.5", ".5", "5.", "1e5", "1E-3", "1e", "0x1F", "0X", "0x1d", "1e400", "9d", "5m", "1h30m", "5ms", "1s1m", "10001y", "1y2w3d4h5m6s7ms", "8y", ".",
		"\"\"", "\"x\"", "'y'", "`z`", "'\\''", "\"\\n\"", "'\\q'", "\"\\xff\"", "`\\`", "\"\n\"", "`\n`", "\"", "'", "`", "\"\xff\"", "'{'", "\"[\"", "'#'", "\\",
		"(", ")", "{", "}", "[", "]", ",", "=", "==", "!=", "=~", "!~", "<", "<=", ">", ">=", "+", "-", "*", "/", "%", "^", "@", "!", "~", ";", "$", "&", "?", "|",
		" ", "\t", "\r", "\n", "  ", "# r\n", "#", "#'\n", "#\xff\n", "\v", "\f", "\x00", "\x7f", "\x80", "\xff", "\u00e9", "\u00a0", "\u212a",
	}
}

// random: many texts of many pieces, always the same ones. Some are of pieces that Scan takes alone, so that long ones are taken too.
func random(n int) iter.Seq[string] {
	return func(yield func(string) bool) {
		dice := rand.New(rand.NewPCG(11, 11))
		all := pieces()
		var good []string
		for _, p := range all {
			if scan(p).e == api.OK {
				good = append(good, p)
			}
		}
		for range n {
			list := all
			if dice.IntN(3) > 0 {
				list = good
			}
			var b strings.Builder
			for range dice.IntN(16) {
				b.WriteString(list[dice.IntN(len(list))])
				if dice.IntN(2) > 0 {
					b.WriteByte(' ')
				}
			}
			if !yield(b.String()) {
				return
			}
		}
	}
}

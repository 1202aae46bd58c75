package rxtree_test

import (
	"strconv"
	"strings"
	"testing"

	"weir/api"
	"weir/rxtree"
)

// P8.1, rule 2: each form of a repeat, greedy and lazy, with and without the flag U.
func TestRepeatForms(t *testing.T) {
	for _, c := range []struct {
		sign        string
		least, most int
	}{
		{"*", 0, -1}, {"+", 1, -1}, {"?", 0, 1}, {"{0}", 0, 0}, {"{1}", 1, 1}, {"{3}", 3, 3}, {"{1000}", 1000, 1000},
		{"{0,}", 0, -1}, {"{1,}", 1, -1}, {"{2,}", 2, -1}, {"{1000,}", 1000, -1},
		{"{0,0}", 0, 0}, {"{0,1}", 0, 1}, {"{2,5}", 2, 5}, {"{5,5}", 5, 5}, {"{0,1000}", 0, 1000}, {"{999,1000}", 999, 1000}, {"{1000,1000}", 1000, 1000},
		{"{007}", 7, 7}, {"{00}", 0, 0}, {"{01,0002}", 1, 2}, {"{00000000000000000000000001000}", 1000, 1000}, {"{0000,}", 0, -1},
	} {
		for _, piece := range []reading{
			{"a", lit('a')}, {"(?:ab)", cat(lit('a'), lit('b'))}, {"(?:)", empty()}, {"(a)", group(1, "", lit('a'))}, {"()", group(1, "", empty())},
			{"^", of(api.RxBegin)}, {"$", of(api.RxEnd)}, {`\A`, of(api.RxBegin)}, {`\z`, of(api.RxEnd)}, {`\b`, of(api.RxWord)}, {`\B`, of(api.RxNotWord)},
			{".", class(0, 9, 11, maxRune)}, {"[ab]", class('a', 'b')}, {`\d`, class('0', '9')}, {`\*`, lit('*')}, {`\x41`, lit('A')}, {"{", lit('{')}, {"}", lit('}')}, {"]", lit(']')},
			{`\Qa\E`, lit('a')}, {`\Q*\E`, lit('*')}, {"(?i:k)", class('K', 'K', 'k', 'k')}, {"(?:a*)", rep(0, -1, lit('a'))}, {"(?:(?i))", empty()}, {"é", lit('é')},
			{"(?m:^)", of(api.RxLineBegin)}, {"(?m:$)", of(api.RxLineEnd)}, {"(?:a|b)", alt(lit('a'), lit('b'))},
		} {
			greedy, slow := rep(c.least, c.most, piece.want), lazy(c.least, c.most, piece.want)
			if piece.pattern != "(?:a*)" { // within which U counts too
				checkReadings(t, []reading{{"(?U)" + piece.pattern + c.sign, slow}, {"(?U)" + piece.pattern + c.sign + "?", greedy}})
			}
			checkReadings(t, []reading{
				{piece.pattern + c.sign, greedy},
				{piece.pattern + c.sign + "?", slow},
				{"(?U)(?-U)" + piece.pattern + c.sign, greedy},
				{"x" + piece.pattern + c.sign + "y", cat(lit('x'), greedy, lit('y'))},
				{"x|" + piece.pattern + c.sign + "?|y", alt(lit('x'), slow, lit('y'))},
			})
		}
	}
}

// P8.1, rule 2: the flag U counts where the repeat stands, not where its piece does.
func TestFlagU(t *testing.T) {
	a := lit('a')
	checkReadings(t, []reading{
		{"(?U:a*)", lazy(0, -1, a)},
		{"(?U:a)*", rep(0, -1, a)},
		{"(?U:a)*?", lazy(0, -1, a)},
		{"(?U)(?-U:a)*", lazy(0, -1, a)},
		{"(?:(?U)a)*", rep(0, -1, a)},
		{"(?:(?U)a*)*", rep(0, -1, lazy(0, -1, a))},
		{"a*(?U)a*", cat(rep(0, -1, a), lazy(0, -1, a))},
		{"(?U)a{2}a{2}?", cat(lazy(2, 2, a), rep(2, 2, a))},
		{"(?U)a|a+", alt(a, lazy(1, -1, a))},
		{"(?i)a*", rep(0, -1, class('A', 'A', 'a', 'a'))},
	})
}

// P8.1, rule 2: each place at which no piece stands right ahead.
func TestNothingToRepeat(t *testing.T) {
	places := []string{
		"", "a|", "|", "(", "(?:", "(?i:", "(?P<x>", "(?<x>", "a|(", "(a|", "a*", "a+", "a?", "a*?", "a+?", "a??", "a{2}", "a{2}?", "a{2,}", "a{2,3}?",
		"(?i)", "a(?i)", "a(?-i)", "(a)(?m)", "(?i)(?s)", `\Q\E`, `a\Q\E`, `\Qa\E\Q\E`, "(?U)a*", "(?U)a*?", `a*\Q\E`, "a*(?i)", "(?i)a|", "(?:a)*", "(a)*", `\Qa\E*`, "[a]*", `\d*`, "^*",
	}
	for _, p := range places {
		for _, sign := range []string{"*", "+", "{2}", "{2,}", "{2,3}", "{1001}", "{0}", "{3,2}", "*?", "{2}?"} {
			checkRefusals(t, []refusal{{p + sign, api.ErrRxRepeat}, {p + sign + "b", api.ErrRxRepeat}})
		}
		if !strings.HasSuffix(p, "(") { // `(?` is another thing
			checkParse(t, p+"?")
		}
	}
	checkRefusals(t, []refusal{
		{"?", api.ErrRxRepeat}, {"a|?", api.ErrRxRepeat}, {"(?:?)", api.ErrRxRepeat}, {"a???", api.ErrRxRepeat}, {"a*??", api.ErrRxRepeat}, {"a{2}??", api.ErrRxRepeat},
		{"(?i)?", api.ErrRxRepeat}, {"a*(?i)?", api.ErrRxRepeat}, {`a*\Q\E?`, api.ErrRxRepeat}, {`\Q\E?`, api.ErrRxRepeat},
	})
}

// P8.1, rule 2: a `{` behind which no form of a repeat stands.
func TestPlainBraces(t *testing.T) {
	t.Parallel()
	for _, s := range []string{
		"{", "a{", "{2", "{2,", "{2,3", "{,", "{,3}", "{}", "{,}", "{a}", "{2a}", "{2,a}", "{2,3a}", "{ 2}", "{2 }", "{2, 3}", "{-1}", "{2,-1}", "{=2}", "{2;3}", "{{", "{{}", "{2,3,4}", "{2,,3}",
		"{1001", "{1001,", "{3,2", "{99999999999999999999", "{٣}",
	} {
		for _, p := range []string{"", "a", "}", "é"} {
			checkReadings(t, []reading{{p + s, row(p + s)}, {"(?:" + p + s + ")", row(p + s)}})
		}
		checkReadings(t, []reading{{"a*" + s, cat(append([]api.Rx{rep(0, -1, lit('a'))}, kidsOf(s)...)...)}})
	}
	checkReadings(t, []reading{
		{"a{2}{", cat(rep(2, 2, lit('a')), lit('{'))},
		{"{{2}", rep(2, 2, lit('{'))},
		{"a{{2}", cat(lit('a'), rep(2, 2, lit('{')))},
		{"a{2{3}", cat(lit('a'), lit('{'), rep(3, 3, lit('2')))},
		{"{2*", cat(lit('{'), rep(0, -1, lit('2')))},
		{"{*", rep(0, -1, lit('{'))},
		{"a{2}}", cat(rep(2, 2, lit('a')), lit('}'))},
		{"{}{2}", cat(lit('{'), rep(2, 2, lit('}')))},
		{"(?i){", lit('{')},
	})
	checkAll(t, texts(5, "a", "{", "}", ",", "1", "2", "?", "*", "|"))
}

func kidsOf(s string) []api.Rx {
	var out []api.Rx
	for _, r := range s {
		out = append(out, lit(r))
	}
	return out
}

// P8.1, rule 2: MaxRepeat is taken, one above it isn't; the second number isn't below the first.
func TestRepeatLimits(t *testing.T) {
	for n := range 1005 {
		for _, form := range []string{"a{%}", "a{%,}", "a{%,%}", "a{0,%}", "a{%,1000}", "a{500,%}", "a{%,500}", "a{%,1001}", "a{%,0}"} {
			checkParse(t, strings.ReplaceAll(form, "%", strconv.Itoa(n)))
		}
	}
	for _, s := range []string{"{1001}", "{1001,}", "{0,1001}", "{1001,1001}", "{1001,0}", "{1000,999}", "{1,0}", "{10000}", "{65536}", "{2147483648}", "{4294967296}", "{4294967297}", "{9223372036854775808}", "{18446744073709551616}", "{18446744073709551617}", "{1,18446744073709551617}", "{" + strings.Repeat("9", 4000) + "}", "{0," + strings.Repeat("9", 4000) + "}"} {
		checkRefusals(t, []refusal{{"a" + s, api.ErrRxRepeat}, {s, api.ErrRxRepeat}})
	}
	noughts := strings.Repeat("0", 4000)
	checkReadings(t, []reading{{"a{" + noughts + "7}", rep(7, 7, lit('a'))}, {"a{" + noughts + "}", rep(0, 0, lit('a'))}, {"a{" + noughts + ",}", rep(0, -1, lit('a'))}})
}

// P8.1: repeats nest as deep as brackets do, whatever they come to when they are told off.
func TestNestedRepeats(t *testing.T) {
	s, x := "a", lit('a')
	for range api.MaxRxDepth {
		s, x = "(?:"+s+"{1000})", rep(1000, 1000, x)
	}
	if got, e := rxtree.Parse(s); e != api.OK || !same(got, x) {
		t.Errorf("repeats in repeats: %d", e)
	}
	checkRefusals(t, []refusal{{"(?:" + s + ")", api.ErrDepth}})
}

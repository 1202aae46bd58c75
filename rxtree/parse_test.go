package rxtree_test

import (
	"strings"
	"testing"

	"weir/api"
	"weir/rxtree"
)

// A reading is a pattern with the tree that it is read as.
type reading struct {
	pattern string
	want    api.Rx
}

func checkReadings(t *testing.T, list []reading) {
	t.Helper()
	for _, c := range list {
		x, e := rxtree.Parse(c.pattern)
		if e != api.OK || !same(x, c.want) {
			t.Errorf("Parse(%q) = %v, %d; want %v", c.pattern, x, e, c.want)
		}
		checkParse(t, c.pattern)
	}
}

// A refusal is a pattern with the error that it gets.
type refusal struct {
	pattern string
	want    api.Errno
}

func checkRefusals(t *testing.T, list []refusal) {
	t.Helper()
	for _, c := range list {
		if x, e := rxtree.Parse(c.pattern); e != c.want || !same(x, api.Rx{}) {
			t.Errorf("Parse(%.60q) = %v, %d; want nothing, %d", c.pattern, x, e, c.want)
		}
		checkParse(t, c.pattern)
	}
}

// checkParse holds Parse against the words; what it takes must be valid, and come back from its own text.
func checkParse(t *testing.T, pattern string) {
	t.Helper()
	want, wantE := parseByWords(pattern)
	x, e := rxtree.Parse(pattern)
	if e != wantE || !same(x, want) {
		t.Fatalf("Parse(%q) = %v, %d; want %v, %d", pattern, x, e, want, wantE)
	}
	if e != api.OK {
		return
	}
	if n := len(nodes(x)); n > 2*api.MaxPattern+1 {
		t.Fatalf("Parse(%q): %d nodes", pattern, n)
	}
	checkTree(t, x, true)
}

func checkAll(t *testing.T, patterns []string) {
	t.Helper()
	for _, p := range patterns {
		checkParse(t, p)
	}
}

// P8.1: the chapter's examples.
func TestParseExamples(t *testing.T) {
	checkReadings(t, []reading{
		{"", empty()},
		{"a", lit('a')},
		{"ab|", alt(cat(lit('a'), lit('b')), empty())},
		{"a(?:bc)d", cat(lit('a'), cat(lit('b'), lit('c')), lit('d'))},
		{"(?:a)", lit('a')},
		{"(?:a*)*", rep(0, -1, rep(0, -1, lit('a')))},
		{"a{2", cat(lit('a'), lit('{'), lit('2'))},
		{"a{,3}", cat(lit('a'), lit('{'), lit(','), lit('3'), lit('}'))},
		{"(?i)k", class('K', 'K', 'k', 'k')},
		{"[a]", lit('a')},
		{"[a-cb-d]", class('a', 'd')},
		{"[]a]", class(']', ']', 'a', 'a')},
		{"[a-]", class('-', '-', 'a', 'a')},
		{"[[:digit:]-z]", class('-', '-', '0', '9', 'z', 'z')},
		{"[[:a]", class(':', ':', '[', '[', 'a', 'a')},
		{".", class(0, 9, 11, maxRune)},
		{"(?P<x>a)(?<y>b)", cat(group(1, "x", lit('a')), group(2, "y", lit('b')))},
		{"(?m)^a$", cat(of(api.RxLineBegin), lit('a'), of(api.RxLineEnd))},
		{"^a$", cat(of(api.RxBegin), lit('a'), of(api.RxEnd))},
		{`\Qa.b\E+`, cat(lit('a'), lit('.'), rep(1, -1, lit('b')))},
	})
	checkRefusals(t, []refusal{
		{"a**", api.ErrRxRepeat},
		{"a{2,1}", api.ErrRxRepeat},
		{"a{1001}", api.ErrRxRepeat},
		{"*", api.ErrRxRepeat},
		{"[z-a]", api.ErrRxClass},
		{"[[:foo:]]", api.ErrRxClass},
		{"(?P<x>a)(?P<x>b)", api.ErrRxGroup},
		{"(?=a)", api.ErrRxFlags},
		{"(a", api.ErrRxBrackets},
		{"a)", api.ErrRxBrackets},
		{`\1`, api.ErrRxEscape},
		{`\x{110000}`, api.ErrRxEscape},
	})
}

// P8.1, rule 1: alternatives and rows, of none, one and more.
func TestExpressions(t *testing.T) {
	t.Parallel()
	a, b, c := lit('a'), lit('b'), lit('c')
	checkReadings(t, []reading{
		{"abc", cat(a, b, c)},
		{"a|b", alt(a, b)},
		{"a|b|c", alt(a, b, c)},
		{"|", alt(empty(), empty())},
		{"||", alt(empty(), empty(), empty())},
		{"|a", alt(empty(), a)},
		{"a||b", alt(a, empty(), b)},
		{"ab|c", alt(cat(a, b), c)},
		{"a|bc", alt(a, cat(b, c))},
		{"(?:a|b)|c", alt(alt(a, b), c)},
		{"a|(?:b|c)", alt(a, alt(b, c))},
		{"(?:a|b)c", cat(alt(a, b), c)},
		{"(?:ab)c", cat(cat(a, b), c)},
		{"(?:abc)", cat(a, b, c)},
		{"(?:)", empty()},
		{"a(?:)", cat(a, empty())},
		{"(?:)(?:)", cat(empty(), empty())},
		{"()", group(1, "", empty())},
		{"(|)", group(1, "", alt(empty(), empty()))},
		{"(a)|b", alt(group(1, "", a), b)},
		{"a(b|c)", cat(a, group(1, "", alt(b, c)))},
		{"aa", cat(a, a)},
	})
	checkRefusals(t, []refusal{
		{"(", api.ErrRxBrackets},
		{")", api.ErrRxBrackets},
		{"a|)", api.ErrRxBrackets},
		{"())", api.ErrRxBrackets},
		{"(()", api.ErrRxBrackets},
		{"(?:a", api.ErrRxBrackets},
		{"(?i:a", api.ErrRxBrackets},
		{"(?P<x>a", api.ErrRxBrackets},
		{"(a|b", api.ErrRxBrackets},
		{"(?i))", api.ErrRxBrackets},
		{"(a]", api.ErrRxBrackets},
	})
	checkAll(t, texts(6, "a", "|", "(", ")", "(?:", "*"))
}

// P8.1, rule 4: runes that stand for themselves, whatever they are.
func TestSingleRunes(t *testing.T) {
	checkReadings(t, []reading{
		{"]", lit(']')},
		{"}", lit('}')},
		{"{", lit('{')},
		{"-", lit('-')},
		{"é", lit('é')},
		{"\x00", lit(0)},
		{"\n", lit('\n')},
		{"\U0010FFFF", lit(maxRune)},
		{"日本", cat(lit('日'), lit('本'))},
		{"\uFFFD", lit(0xFFFD)},
		{"(?s).", class(0, maxRune)},
		{"(?s)(?-s).", class(0, 9, 11, maxRune)},
		{"(?i).", class(0, 9, 11, maxRune)},
		{"(?m)^", of(api.RxLineBegin)},
		{"(?m)$", of(api.RxLineEnd)},
		{"(?m)(?-m)^$", cat(of(api.RxBegin), of(api.RxEnd))},
		{"(?s)^$", cat(of(api.RxBegin), of(api.RxEnd))},
		{"(?m)\\A\\z", cat(of(api.RxBegin), of(api.RxEnd))},
	})
	for r := range rune(0x3000) {
		checkParse(t, string(r))
	}
}

// P8.1, rule 7: with the flag i the 52 letters, and these alone, bring their other case.
func TestFoldedRunes(t *testing.T) {
	for r := range rune(0x3000) {
		x, e := rxtree.Parse("(?i)" + rxtree.Quote(string(r)))
		want := lit(r)
		switch {
		case 'a' <= r && r <= 'z':
			want = class(r-32, r-32, r, r)
		case 'A' <= r && r <= 'Z':
			want = class(r, r, r+32, r+32)
		}
		if e != api.OK || !same(x, want) {
			t.Fatalf("%q with the flag i: %v, %d", r, x, e)
		}
	}
	K, k := lit('K'), class('K', 'K', 'k', 'k')
	checkReadings(t, []reading{
		{"(?i)\u212A", lit(0x212A)},
		{"(?i)\\x4b", k},
		{"(?i)\\x{6b}", k},
		{"(?i)\\Qk\\E", k},
		{"(?i)\\QK", k},
		{"(?i)[k]", k},
		{"(?i)[K]", k},
		{"(?i-i)K", K},
		{"(?i)(?-i)K", K},
		{"(?i)_", lit('_')},
		{"(?i)[_]", lit('_')},
		{"(?i)\\n", lit('\n')},
	})
}

// P8.1: ErrLong ahead of ErrUTF ahead of all others; at the limit a pattern is taken.
func TestLengthAndUTF(t *testing.T) {
	long := strings.Repeat("a", api.MaxPattern)
	if x, e := rxtree.Parse(long); e != api.OK || !same(x, row(long)) {
		t.Errorf("a pattern of MaxPattern bytes: %d", e)
	}
	checkRefusals(t, []refusal{
		{long + "a", api.ErrLong},
		{strings.Repeat("é", api.MaxPattern/2) + "a", api.ErrLong},
		{long + "\xff", api.ErrLong},
		{"\xff" + long, api.ErrLong},
		{")" + long, api.ErrLong},
		{strings.Repeat("*", api.MaxPattern+1), api.ErrLong},
		{"\xff", api.ErrUTF},
		{long[1:] + "\xff", api.ErrUTF},
		{"*\xff", api.ErrUTF},
		{"a)\xc3", api.ErrUTF},
		{"\xed\xa0\x80", api.ErrUTF},
		{"\xc1\x81", api.ErrUTF},
		{"\xf4\x90\x80\x80", api.ErrUTF},
		{"[\xff]", api.ErrUTF},
		{"\\\x80", api.ErrUTF},
		{"\\Q\xff\\E", api.ErrUTF},
		{"(?P<\xe9>a)", api.ErrUTF},
		{strings.Repeat("é", api.MaxPattern/2)[1:], api.ErrUTF},
	})
	if _, e := rxtree.Parse(strings.Repeat("é", api.MaxPattern/2)); e != api.OK {
		t.Errorf("a pattern of MaxPattern bytes, two for each rune: %d", e)
	}
	if x, e := rxtree.Parse(strings.Repeat("|", api.MaxPattern)); e != api.OK || len(x.Kids) != api.MaxPattern+1 {
		t.Errorf("as many alternatives as there can be: %d", e)
	}
}

// P8.1: of two faults the first from the left is told.
func TestTwoFaults(t *testing.T) {
	faults := []refusal{
		{"a**", api.ErrRxRepeat},
		{"a{2,1}", api.ErrRxRepeat},
		{"[z-a]", api.ErrRxClass},
		{"[[:x:]]", api.ErrRxClass},
		{`\y`, api.ErrRxEscape},
		{`\x{}`, api.ErrRxEscape},
		{`[a\b]`, api.ErrRxEscape},
		{"(?x)", api.ErrRxFlags},
		{"(?=a)", api.ErrRxFlags},
		{"(?P<>a)", api.ErrRxGroup},
		{"(?<x>a)(?<x>a)", api.ErrRxGroup},
		{strings.Repeat("()", 101), api.ErrRxGroup},
		{strings.Repeat("(?:", 251), api.ErrDepth},
		{"a)", api.ErrRxBrackets},
	}
	for _, f := range faults {
		for _, g := range faults {
			checkRefusals(t, []refusal{
				{f.pattern + "b" + g.pattern, f.want},
				{f.pattern + "|" + g.pattern, f.want},
				{"b" + f.pattern + "(b)" + g.pattern, f.want},
			})
		}
		// An open bracket and an open class are faults at the pattern's end alone.
		checkRefusals(t, []refusal{{f.pattern + "(b", f.want}, {f.pattern + "[b", f.want}})
		if f.want != api.ErrRxBrackets {
			checkRefusals(t, []refusal{{"(b|" + f.pattern, f.want}})
		}
	}
	checkRefusals(t, []refusal{
		{"([a", api.ErrRxClass},
		{"(a[b-", api.ErrRxClass},
		{"(a\\", api.ErrRxEscape},
		{"[a\\", api.ErrRxEscape},
		{"[a-\\", api.ErrRxEscape},
		{"(*", api.ErrRxRepeat},
		{"([z-a]", api.ErrRxClass},
		{"[\\y", api.ErrRxEscape},
		{"[z-a\\y", api.ErrRxClass},
		{"[\\yz-a]", api.ErrRxEscape},
		{"[z-\\y]", api.ErrRxEscape},
		{"(?i", api.ErrRxFlags},
		{"((?i", api.ErrRxFlags},
		{"((?<x", api.ErrRxGroup},
		{"(?=*", api.ErrRxFlags},
		{"(?<*", api.ErrRxGroup},
	})
}

// P8.1: rows of all that a pattern is made of.
func TestManyPatterns(t *testing.T) {
	t.Parallel()
	r := someRand()
	parts := []string{
		"a", "k", "Z", "é", "7", "_", " ", "|", "|", "(", "(", "(?:", ")", ")", ")", "(?P<n>", "(?<m>", "(?i)", "(?m)", "(?s)", "(?U)", "(?-i)", "(?i-s)", "(?-ms:", "(?U:", "(?imsU)",
		"*", "+", "?", "??", "{2}", "{0,3}", "{1,}", "{,2}", "{", "}", "{3,2}", ".", "^", "$", `\A`, `\z`, `\b`, `\B`, `\d`, `\D`, `\s`, `\S`, `\w`, `\W`, `\n`, `\x41`, `\x{1F600}`, `\.`, `\\`, `\Q`, `\E`, `\Qa*\E`,
		"[", "]", "[a-z]", "[^a-z]", "[]a]", "[^]a]", "[a-c-e]", "[-a]", "[a-]", "[[:alpha:]]", "[[:^digit:]_]", "[[:", ":]", `[\d\S]`, `[\x{0}-\x{10ffff}]`, "-", "[^", ":", "^",
	}
	for range 80000 {
		s := ""
		for range 1 + r.IntN(12) {
			s += parts[r.IntN(len(parts))]
		}
		checkParse(t, s)
	}
}

// P8.1: rows of parts that are mostly right, so that long ones are taken.
func TestManyGoodPatterns(t *testing.T) {
	t.Parallel()
	r := someRand()
	taken := 0
	for range 8000 {
		s := somePattern(r, 5)
		checkParse(t, s)
		if _, e := rxtree.Parse(s); e == api.OK {
			taken++
		}
	}
	if taken < 7000 {
		t.Errorf("only %d of the patterns are taken", taken)
	}
}

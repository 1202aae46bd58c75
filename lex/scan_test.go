package lex_test

import (
	"slices"
	"strings"
	"testing"

	"weir/api"
	"weir/lex"
)

// ask: what Scan answers.
func ask(text string) answer {
	toks, at, e := lex.Scan(text)
	return answer{toks, at, e}
}

func alike(a, b answer) bool {
	return slices.Equal(a.toks, b.toks) && a.at == b.at && a.e == b.e
}

// agree holds Scan against the words of the chapter.
func agree(t *testing.T, text string) answer {
	t.Helper()
	got, want := ask(text), scan(text)
	if !alike(got, want) {
		t.Fatalf("Scan(%q) = %v; want %v", text, got, want)
	}
	return got
}

// told: tokens as one text: each one's kind, a stroke, its text.
func told(toks []api.Token) string {
	var list []string
	for _, k := range toks {
		list = append(list, string(rune('0'+k.Kind))+"|"+k.Text)
	}
	return strings.Join(list, " ")
}

func wantTokens(t *testing.T, text, want string) {
	t.Helper()
	toks, at, e := lex.Scan(text)
	if told(toks) != want || at != 0 || e != api.OK {
		t.Errorf("Scan(%q) = %q, %d, %d; want %q", text, told(toks), at, e, want)
	}
}

func wantFault(t *testing.T, text string, at int, e api.Errno) {
	t.Helper()
	if got := ask(text); !alike(got, answer{at: at, e: e}) {
		t.Errorf("Scan(%.60q) = %v; want error %d at %d", text, got, e, at)
	}
}

// P11.1: the chapter's examples.
func TestScanExamples(t *testing.T) {
	for _, c := range [][2]string{
		{"up", "1|up"},
		{"a:b", "2|a:b"},
		{" x # y", "1|x"},
		{"", ""},
		{"m{a=~\"x\"}[5m:1m]", "1|m 6|{ 1|a 6|=~ 5|\"x\" 6|} 6|[ 4|5m 6|: 4|1m 6|]"},
		{"5m", "4|5m"},
		{"5", "3|5"},
		{"1e5", "3|1e5"},
		{"1h30m", "4|1h30m"},
		{"0x1F", "3|0x1F"},
		{"a 8y", "1|a 4|8y"},
		{"Inf", "3|Inf"},
		{"{inf", "6|{ 1|inf"},
		{"a[:b", "1|a 6|[ 6|: 1|b"},
		{":", "2|:"},
		{"[:", "6|[ 6|:"},
		{":5", "2|:5"},
	} {
		wantTokens(t, c[0], c[1])
	}
	wantFault(t, "5mm", 0, api.ErrLexeme)
	wantFault(t, "1.2.3", 0, api.ErrLexeme)
	wantFault(t, "a ! b", 2, api.ErrChar)
	wantFault(t, "'a", 0, api.ErrLiteral)
	if toks, _, _ := lex.Scan(" x # y"); len(toks) != 1 || toks[0].At != 1 {
		t.Errorf("Scan of a blank and a name: %v", toks)
	}
}

// P11.1: blanks and remarks at the beginning, between tokens and at the end.
func TestScanGaps(t *testing.T) {
	for _, gap := range []string{"\t", "\n", "\r", " ", " \t\r\n ", "#\n", "# a remark, 'of {all} [kinds] \xff\x00 # $\n", "#\r\n", "##\n#\n"} {
		for _, c := range [][2]string{
			{gap, ""},
			{gap + "a", "1|a"},
			{"a" + gap, "1|a"},
			{"a" + gap + "b", "1|a 1|b"},
			{"1" + gap + "2m", "3|1 4|2m"},
			{"=" + gap + "=", "6|= 6|="},
			{gap + gap + "'x'" + gap + "+" + gap + gap, "5|'x' 6|+"},
		} {
			wantTokens(t, c[0], c[1])
		}
	}
	wantTokens(t, "a # to the end", "1|a")
	wantTokens(t, "#", "")
	wantTokens(t, "a#", "1|a")
	wantTokens(t, "a # b\rc", "1|a")
	wantTokens(t, "'#' # '", "5|'#'")
	wantTokens(t, "`#\n`#`\n`a`", "5|`#\n` 5|`a`")
	for b := range 256 {
		s := string([]byte{byte(b)})
		if toks, _, e := lex.Scan(s); (e == api.OK && len(toks) == 0) != strings.Contains("\t\n\r #", s) {
			t.Errorf("Scan(%q) = %v, %d", s, toks, e)
		}
	}
}

// P11.1: a remark doesn't open or close braces or brackets, and neither does a string.
func TestScanGapsHideBrackets(t *testing.T) {
	wantTokens(t, "# {[\n:", "2|:")
	wantTokens(t, "{ # }\n:", "6|{ 6|:")
	wantTokens(t, "'{' a:b", "5|'{' 2|a:b")
	wantTokens(t, "{'}' a:b", "6|{ 5|'}' 1|a 6|: 1|b")
	wantTokens(t, "[`]` :", "6|[ 5|`]` 6|:")
}

// P11.1: each operator, the longest one that stands there.
func TestScanOperators(t *testing.T) {
	ops := []string{"(", ")", "{", "}", "[", "]", ",", ":", "=", "==", "!=", "=~", "!~", "<", "<=", ">", ">=", "+", "-", "*", "/", "%", "^", "@"}
	for _, op := range ops {
		wantTokens(t, "["+op, "6|[ 6|"+op)
		wantTokens(t, "{ "+op+" 'x'", "6|{ 6|"+op+" 5|'x'")
		if op != ":" {
			wantTokens(t, "a"+op+"b", "1|a 6|"+op+" 1|b")
		}
	}
	for _, c := range [][2]string{
		{"===", "6|== 6|="},
		{"=!=", "6|= 6|!="},
		{"!==", "6|!= 6|="},
		{"=~=", "6|=~ 6|="},
		{"!~!~", "6|!~ 6|!~"},
		{"<==", "6|<= 6|="},
		{"<>=", "6|< 6|>="},
		{"=<", "6|= 6|<"},
		{"=>", "6|= 6|>"},
		{"= =", "6|= 6|="},
		{"--+", "6|- 6|- 6|+"},
		{"**", "6|* 6|*"},
	} {
		wantTokens(t, c[0], c[1])
	}
	wantFault(t, "= ~", 2, api.ErrChar)
	wantFault(t, "==~", 2, api.ErrChar)
	wantFault(t, "! =", 0, api.ErrChar)
	for b := range 256 {
		s := string([]byte{byte(b)})
		if s != "=" && s != "~" {
			wantFault(t, "!"+s, 0, api.ErrChar)
		}
	}
	wantFault(t, "!", 0, api.ErrChar)
	wantFault(t, "a !", 2, api.ErrChar)
}

// P11.1: names and metric names, and what a colon is.
func TestScanNames(t *testing.T) {
	for _, c := range [][2]string{
		{"abcXYZ_019", "1|abcXYZ_019"},
		{"_", "1|_"},
		{"__name__", "1|__name__"},
		{"a1:b2:", "2|a1:b2:"},
		{"::", "2|::"},
		{":a", "2|:a"},
		{"_:", "2|_:"},
		{"a :b", "1|a 2|:b"},
		{"5:a", "3|5 2|:a"},
		{"5m:1m", "4|5m 2|:1m"},
		{"'x':1", "5|'x' 2|:1"},
		{"{a:b", "6|{ 1|a 6|: 1|b"},
		{"[a:b", "6|[ 1|a 6|: 1|b"},
		{"{}a:b", "6|{ 6|} 2|a:b"},
		{"[]a:b", "6|[ 6|] 2|a:b"},
		{"{{}a:b", "6|{ 6|{ 6|} 2|a:b"},
		{"[[]a:b", "6|[ 6|[ 6|] 2|a:b"},
		{"{[}a:b", "6|{ 6|[ 6|} 1|a 6|: 1|b"},
		{"{[]a:b", "6|{ 6|[ 6|] 1|a 6|: 1|b"},
		{"{[}]a:b", "6|{ 6|[ 6|} 6|] 2|a:b"},
		{"}a:b", "6|} 2|a:b"},
		{"]]a:b[:", "6|] 6|] 2|a:b 6|[ 6|:"},
		{"(a:b)", "6|( 2|a:b 6|)"},
		{"{::", "6|{ 6|: 6|:"},
		{"[5m:]", "6|[ 4|5m 6|: 6|]"},
		{"by on AND", "1|by 1|on 1|AND"},
	} {
		wantTokens(t, c[0], c[1])
	}
	wantFault(t, "a\u00e9", 1, api.ErrChar)
	wantFault(t, "a:\u212a", 2, api.ErrChar)
}

// cases: a word with each of its letters in either case.
func cases(word string) []string {
	all := []string{""}
	for _, r := range word {
		all = longer(all, []string{string(r), strings.ToUpper(string(r))})
	}
	return all
}

// P11.1: the words inf and nan, in each case, are numbers but inside of braces.
func TestScanInfAndNan(t *testing.T) {
	words := append(cases("inf"), cases("nan")...)
	if len(words) != 16 {
		t.Fatal(words)
	}
	for _, w := range words {
		wantTokens(t, w, "3|"+w)
		wantTokens(t, "-"+w+")", "6|- 3|"+w+" 6|)")
		wantTokens(t, "["+w, "6|[ 3|"+w)
		wantTokens(t, "{"+w, "6|{ 1|"+w)
		wantTokens(t, "{["+w, "6|{ 6|[ 1|"+w)
		wantTokens(t, "{}"+w, "6|{ 6|} 3|"+w)
		wantTokens(t, w+":", "2|"+w+":")
		wantTokens(t, "["+w+":", "6|[ 3|"+w+" 6|:")
		wantTokens(t, ":"+w, "2|:"+w)
		for _, more := range []string{"x", "0", "_", "inity", w} {
			wantTokens(t, w+more, "1|"+w+more)
		}
		wantTokens(t, "_"+w, "1|_"+w)
		wantTokens(t, w[:2], "1|"+w[:2])
		wantFault(t, w+".", 3, api.ErrChar)
	}
}

// P11.1: numbers and durations, the longer of which counts, and what may not stand behind them.
func TestScanNumbers(t *testing.T) {
	numbers := []string{"0", "5", "007", "1.5", "5.", ".5", "1e5", "1E+5", "1.e-5", ".5e0", "12E-3", "0x1F", "0XaB", "0x1d", "0x5", "00", strings.Repeat("0", api.MaxNumber), "1." + strings.Repeat("7", api.MaxNumber-2), "1e308", "1e-99999999999"}
	durations := []string{"5m", "1h30m", "5ms", "01m", "0s", "8y", "1y2w3d4h5m6s7ms", "9d", "1d", "2w", "3h", "4s", "1y1ms", "10000y", strings.Repeat("0", api.MaxSpanText-1) + "s"}
	for _, c := range []struct {
		kind  string
		texts []string
	}{{"3", numbers}, {"4", durations}} {
		for _, s := range c.texts {
			wantTokens(t, s, c.kind+"|"+s)
			wantTokens(t, " "+s+" ", c.kind+"|"+s)
			wantTokens(t, "{"+s+"}"+s, "6|{ "+c.kind+"|"+s+" 6|} "+c.kind+"|"+s)
			for b := range 256 {
				agree(t, "x "+s+string([]byte{byte(b)}))
				agree(t, "x "+s+string([]byte{byte(b), '1'}))
			}
		}
	}
	for _, s := range []string{"5a", "5_", "5..", "1.2.3", "1e", "1e+", "1ex", "1.5e", "0x", "0xg", "0x1F.", "0x1Fg", "0x1_", "1.5m", ".5s", "1e5m", "5mm", "5msx", "5m.", "5m_", "5m5", "5m5m", "1s1m", "1ms1s", "1h30", "5min", "1x", "5_000", "1Y", "5M", "0b1", "5inf", "5e5.5",
		"1e400", "1.7976931348623159e308", strings.Repeat("0", api.MaxNumber+1), "0x1" + strings.Repeat("0", 256), "10001y", "10000y1ms", strings.Repeat("0", api.MaxSpanText) + "s"} {
		wantFault(t, s, 0, api.ErrLexeme)
		wantFault(t, "a + "+s+" + $", 4, api.ErrLexeme)
		wantFault(t, "{"+s, 1, api.ErrLexeme)
	}
	wantTokens(t, "1+.5-5.", "3|1 6|+ 3|.5 6|- 3|5.")
	wantTokens(t, "1e5+5", "3|1e5 6|+ 3|5")
	wantTokens(t, "5'a'5", "3|5 5|'a' 3|5")
	for _, s := range []string{".", "..5", ".e5", ".x", ". 5"} {
		wantFault(t, s, 0, api.ErrChar)
		wantFault(t, "[ "+s, 2, api.ErrChar)
	}
}

// P11.1: strings of the three quotes.
func TestScanStrings(t *testing.T) {
	good := []string{
		`""`, `''`, "``", `"a b"`, `'a b'`, "`a b`", `"'"`, `'"'`, "'`'", `"\""`, `'\''`, "`\\`", "`\n`", "`\r\n\x00`", "'\r\x00'", `"\a\b\t\n\v\f\r\\\101\x41\u0041\U00000041"`, `'\303\251'`, "'\u00e9\U0001F600'", "`\u2028`", `"{"`, `"# x"`, `"\xc3\xa9"`,
	}
	for _, s := range good {
		wantTokens(t, s, "5|"+s)
		wantTokens(t, "a="+s+",", "1|a 6|= 5|"+s+" 6|,")
		wantTokens(t, s+s+"x", "5|"+s+" 5|"+s+" 1|x")
	}
	for _, s := range []string{
		`"`, `'`, "`", `"a`, `'a"`, "`a", `"\"`, `'\'`, "'a\n'", "'a\\\n'", "\"\n\"", "`a'", // not closed
		`"\q"`, `'\"'`, `"\'"`, `"\`, `"\8"`, `"\400"`, `"\x4"`, `"\xg0"`, `"\u004"`, `"\ud800"`, `"\U00110000"`, `"\12"`, // no escapes
		`"\xff"`, `'\303'`, "'\xff'", "`\xff`", "`\xed\xa0\x80`", "\"\xc3\"", // not UTF-8
	} {
		wantFault(t, s, 0, api.ErrLiteral)
		wantFault(t, "a{b="+s, 4, api.ErrLiteral)
		wantFault(t, "'x' "+s+" $", 4, api.ErrLiteral)
	}
}

// P11.1: bytes that begin no token, wherever they stand.
func TestScanBytes(t *testing.T) {
	const begin = "\t\n\r #abcdefghijklmnopqrstuvwxyzABCDEFGHIJKLMNOPQRSTUVWXYZ_:0123456789(){}[],=<>+-*/%^@"
	for b := range 256 {
		s := string([]byte{byte(b)})
		switch {
		case strings.ContainsAny("\"'`", s):
			wantFault(t, s, 0, api.ErrLiteral)
		case b < 128 && strings.Contains(begin, s):
			if got := ask(s); got.e != api.OK {
				t.Errorf("Scan(%q) = %v", s, got)
			}
		default:
			wantFault(t, s, 0, api.ErrChar)
			wantFault(t, "ab "+s, 3, api.ErrChar)
			wantFault(t, "ab"+s, 2, api.ErrChar)
			wantFault(t, "a{}[5m:] "+s+" 'x", 9, api.ErrChar)
			wantTokens(t, "a#"+s, "1|a")
		}
	}
}

// P11.1: of several faults the first from the left counts; its place is that of the token that it begins.
func TestScanFirstFault(t *testing.T) {
	faults := []struct {
		text string
		e    api.Errno
	}{{"$", api.ErrChar}, {"!", api.ErrChar}, {"5mm", api.ErrLexeme}, {"1e999", api.ErrLexeme}, {"'\\q'", api.ErrLiteral}, {"\"\n", api.ErrLiteral}}
	for _, a := range faults {
		for _, b := range faults {
			wantFault(t, "ab + "+a.text+" "+b.text, 5, a.e)
		}
	}
}

// P11.1: texts of MaxText bytes are taken, those of one more aren't, whatever is in them.
func TestScanLong(t *testing.T) {
	blanks := strings.Repeat(" ", api.MaxText)
	if got := ask(blanks); !alike(got, answer{}) {
		t.Errorf("Scan of MaxText blanks: %d tokens, %d, %d", len(got.toks), got.at, got.e)
	}
	if got := ask(blanks[1:] + "x"); !alike(got, answer{toks: []api.Token{{Kind: api.TokName, Text: "x", At: api.MaxText - 1}}}) {
		t.Errorf("Scan of a name behind blanks: %v", got)
	}
	wantFault(t, blanks+" ", 0, api.ErrLong)
	wantFault(t, blanks[1:]+"$", api.MaxText-1, api.ErrChar)
	wantFault(t, "$"+blanks, 0, api.ErrLong)
	wantFault(t, blanks+"$", 0, api.ErrLong)
}

// P11.1: every text of one or two bytes, and of some of three, behind each kind of brackets.
func TestScanShort(t *testing.T) {
	taken := 0
	count := func(text string) {
		if agree(t, text).e == api.OK {
			taken++
		}
	}
	for _, state := range []string{"", "{", "[", "{["} {
		for text := range texts(2, eachByte()...) {
			count(state + text)
		}
	}
	for _, state := range states() {
		for text := range texts(3, strings.Split("a i n f N : 0 x 1 e . + - m s y _ \" ' ` \\ = ~ ! < # { } [ ]", " ")...) {
			count(state + text)
			count(state + " " + text)
		}
	}
	if taken < 300000 {
		t.Errorf("%d of the texts are taken", taken)
	}
}

// P11.1: every text of up to three pieces, and many of more.
func TestScanPieces(t *testing.T) {
	seen := map[api.Errno]int{}
	for text := range texts(2, pieces()...) {
		seen[agree(t, text).e]++
	}
	for text := range random(60000) {
		seen[agree(t, text).e]++
	}
	for _, e := range []api.Errno{api.OK, api.ErrChar, api.ErrLexeme, api.ErrLiteral} {
		if seen[e] < 1000 {
			t.Errorf("error %d is met in %d texts", e, seen[e])
		}
	}
}

// P11.1: many tokens in one text: nothing ends early, and the places are right to the end.
func TestScanMany(t *testing.T) {
	const one, n = "m{a=~'x',b!=\"y\"}[5m:1m] + -1e5 / (inf) # r\n", 5000
	want := scan(one)
	got := ask(strings.Repeat(one, n))
	if got.e != api.OK || len(got.toks) != n*len(want.toks) {
		t.Fatalf("%d tokens, %d, %d", len(got.toks), got.at, got.e)
	}
	for i, k := range got.toks {
		w := want.toks[i%len(want.toks)]
		w.At += i / len(want.toks) * len(one)
		if k != w {
			t.Fatalf("token %d is %v; want %v", i, k, w)
		}
	}
}

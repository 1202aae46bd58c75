package rxtree_test

import (
	"strconv"
	"strings"
	"testing"

	"weir/api"
	"weir/rxtree"
)

// P8.1, rule 6: classes, item by item.
func TestClasses(t *testing.T) {
	checkReadings(t, []reading{
		{"[ab]", class('a', 'b')},
		{"[ba]", class('a', 'b')},
		{"[ac]", class('a', 'a', 'c', 'c')},
		{"[aa]", lit('a')},
		{"[a-a]", lit('a')},
		{"[a-b]", class('a', 'b')},
		{"[a-cx-z]", class('a', 'c', 'x', 'z')},
		{"[x-za-c]", class('a', 'c', 'x', 'z')},
		{"[a-cd-f]", class('a', 'f')},
		{"[a-ce-g]", class('a', 'c', 'e', 'g')},
		{"[a-zb-c]", class('a', 'z')},
		{"[a-zb-cx]", class('a', 'z')},
		{"[.]", lit('.')},
		{"[$(|)*+?{}]", class('$', '$', '(', '+', '?', '?', '{', '}')},
		{"[[]", lit('[')},
		{"[]]", lit(']')},
		{"[[]]", cat(lit('['), lit(']'))},
		{"[a]]", cat(lit('a'), lit(']'))},
		{"[a\n]", class('\n', '\n', 'a', 'a')},
		{"[é日]", class('é', 'é', '日', '日')},
		{"[\u00e0-\u00ff]", class(0xE0, 0xFF)},
		{`[\x{0}-\x{10ffff}]`, class(0, maxRune)},
		{`[\x{d7ff}\x{e000}]`, class(0xD7FF, 0xD7FF, 0xE000, 0xE000)},
		{`[\x{d7ff}\x{d800}-\x{dfff}\x{e000}]`, class(0xD7FF, 0xE000)},
		{`[\x{d800}]`, lit(0xD800)},
		{`[\x{d800}-\x{dfff}]`, class(0xD800, 0xDFFF)},
		{`[\]]`, lit(']')},
		{`[\[\]]`, class('[', '[', ']', ']')},
		{`[\\]`, lit('\\')},
		{`[\n\t]`, class(9, 10)},
		{`[\d]`, class('0', '9')},
		{`[\da]`, class('0', '9', 'a', 'a')},
		{`[\d\D]`, class(0, maxRune)},
		{`[\s\S]`, class(0, maxRune)},
		{`[\w\W]`, class(0, maxRune)},
		{`[\W\d]`, class(0, 'A'-1, 'Z'+1, '_'-1, '_'+1, 'a'-1, 'z'+1, maxRune)},
		{`[a][b]`, cat(lit('a'), lit('b'))},
		{"[a]*", rep(0, -1, lit('a'))},
		{"[a|b]|c", alt(class('a', 'b', '|', '|'), lit('c'))},
	})
	checkRefusals(t, []refusal{
		{"[", api.ErrRxClass}, {"[]", api.ErrRxClass}, {"[^", api.ErrRxClass}, {"[^]", api.ErrRxClass}, {"[a", api.ErrRxClass}, {"[a-", api.ErrRxClass}, {"[a-z", api.ErrRxClass}, {"a[", api.ErrRxClass}, {"[]a", api.ErrRxClass}, {"[[", api.ErrRxClass}, {`[\]`, api.ErrRxClass}, {`[\d`, api.ErrRxClass}, {`[\d-`, api.ErrRxClass},
		{"[b-a]", api.ErrRxClass}, {"[b-a", api.ErrRxClass}, {`[\x{10ffff}-\x{10fffe}]`, api.ErrRxClass}, {`[a-\-]`, api.ErrRxClass}, {`[a-[]`, api.ErrRxClass}, {"[é-a]", api.ErrRxClass}, {"(?i)[a-Z]", api.ErrRxClass},
		{`[\b]`, api.ErrRxEscape}, {`[\B]`, api.ErrRxEscape}, {`[\A]`, api.ErrRxEscape}, {`[\z]`, api.ErrRxEscape}, {`[\Q]`, api.ErrRxEscape}, {`[\1]`, api.ErrRxEscape}, {`[\`, api.ErrRxEscape}, {`[\x]`, api.ErrRxEscape}, {`[\x{110000}]`, api.ErrRxEscape}, {`[\é]`, api.ErrRxEscape}, {`[\p]`, api.ErrRxEscape},
		{`[a-\d]`, api.ErrRxEscape}, {`[a-\W]`, api.ErrRxEscape}, {`[a-\b]`, api.ErrRxEscape}, {`[a-\Q]`, api.ErrRxEscape}, {`[a-\`, api.ErrRxEscape}, {`[z-\1]`, api.ErrRxEscape}, {`[a-\x]`, api.ErrRxEscape},
	})
}

// P8.1, rule 6: a `-` at each place, and a `]` that is first.
func TestHyphens(t *testing.T) {
	t.Parallel()
	checkReadings(t, []reading{
		{"[-]", lit('-')},
		{"[--]", lit('-')},
		{"[---]", lit('-')},
		{"[-a]", class('-', '-', 'a', 'a')},
		{"[a-]", class('-', '-', 'a', 'a')},
		{"[-a-]", class('-', '-', 'a', 'a')},
		{"[^-]", class(0, '-'-1, '-'+1, maxRune)},
		{"[^-a]", class(0, '-'-1, '-'+1, 'a'-1, 'a'+1, maxRune)},
		{"[--a]", class('-', 'a')},
		{"[!--]", class('!', '-')},
		{"[!--a]", class('!', '-', 'a', 'a')},
		{"[a-c-e]", class('-', '-', 'a', 'c', 'e', 'e')},
		{"[a-c-]", class('-', '-', 'a', 'c')},
		{"[a-c--e]", class('-', 'e')},
		{`[\--a]`, class('-', 'a')},
		{`[a\-z]`, class('-', '-', 'a', 'a', 'z', 'z')},
		{`[!-\-]`, class('!', '-')},
		{`[\d-z]`, class('-', '-', '0', '9', 'z', 'z')},
		{`[\d-]`, class('-', '-', '0', '9')},
		{`[-\d]`, class('-', '-', '0', '9')},
		{`[\d-\w]`, class('-', '-', '0', '9', 'A', 'Z', '_', '_', 'a', 'z')},
		{`[\d--a]`, class('-', 'a')},
		{"[[:digit:]-]", class('-', '-', '0', '9')},
		{"[[:digit:]--a]", class('-', 'a')},
		{"[a-]]", cat(class('-', '-', 'a', 'a'), lit(']'))},
		{"[]-]", class('-', '-', ']', ']')},
		{"[]-a]", class(']', 'a')},
		{"[^]-a]", class(0, ']'-1, 'a'+1, maxRune)},
		{`[A-\]]`, class('A', ']')},
		{"[A-[]", class('A', '[')},
		{"[A-[:alpha:]]", cat(class(':', ':', 'A', '[', 'a', 'a', 'h', 'h', 'l', 'l', 'p', 'p'), lit(']'))},
		{"[^^]", class(0, '^'-1, '^'+1, maxRune)},
		{"[a^]", class('^', '^', 'a', 'a')},
		{"[^^-a]", class(0, '^'-1, 'a'+1, maxRune)},
		{`[\^a]`, class('^', '^', 'a', 'a')},
		{`[\x41-\x43]`, class('A', 'C')},
		{`[\x{41}-C]`, class('A', 'C')},
		{`[\t-\r]`, class(9, 13)},
	})
	checkAll(t, texts(6, "[", "]", "^", "-", "a", "c", `\`))
	for _, s := range texts(5, "]", "^", "-", "a", "c", "[", `\d`, ":") {
		checkParse(t, "["+s+"]")
	}
}

// P8.1, rule 6: the sets with names.
func TestNamedSets(t *testing.T) {
	t.Parallel()
	sets := map[string]api.Rx{
		"alnum":  class('0', '9', 'A', 'Z', 'a', 'z'),
		"alpha":  class('A', 'Z', 'a', 'z'),
		"ascii":  class(0, 127),
		"blank":  class(9, 9, 32, 32),
		"cntrl":  class(0, 31, 127, 127),
		"digit":  class('0', '9'),
		"graph":  class(33, 126),
		"lower":  class('a', 'z'),
		"print":  class(32, 126),
		"punct":  class(33, 47, 58, 64, 91, 96, 123, 126),
		"space":  class(9, 13, 32, 32),
		"upper":  class('A', 'Z'),
		"word":   class('0', '9', 'A', 'Z', '_', '_', 'a', 'z'),
		"xdigit": class('0', '9', 'A', 'F', 'a', 'f'),
	}
	for name, x := range sets {
		var rest []rune // the ends of the ranges of all other runes
		next := rune(0)
		for _, g := range x.Ranges {
			if g.Lo > next {
				rest = append(rest, next, g.Lo-1)
			}
			next = g.Hi + 1
		}
		rest = append(rest, next, maxRune)
		all := class(0, maxRune)
		checkReadings(t, []reading{
			{"[[:" + name + ":]]", x},
			{"[^[:" + name + ":]]", class(rest...)},
			{"[[:^" + name + ":]]", class(rest...)},
			{"[^[:^" + name + ":]]", x},
			{"[[:" + name + ":][:^" + name + ":]]", all},
			{"[^[:" + name + ":][:^" + name + ":]]", class()},
		})
		for other := range sets {
			checkParse(t, "[[:"+name+":][:"+other+":]]")
			checkParse(t, "[[:"+name+":][:^"+other+":]-é]")
			checkParse(t, "(?i)[[:"+name+":][:^"+other+":]]")
		}
		checkRefusals(t, []refusal{
			{"[[:" + strings.ToUpper(name) + ":]]", api.ErrRxClass}, {"[[:" + name + "s:]]", api.ErrRxClass}, {"[[:" + name[2:] + ":]]", api.ErrRxClass}, {"[[: " + name + ":]]", api.ErrRxClass}, {"[[:^^" + name + ":]]", api.ErrRxClass}, {"[[:" + name + ":]", api.ErrRxClass},
		})
		checkParse(t, "[:"+name+":]")
		checkParse(t, "[[:"+name+"]")
		checkParse(t, "[[:"+name+":")
	}
	checkReadings(t, []reading{
		{"[:a]", class(':', ':', 'a', 'a')},
		{"[:alpha:]", class(':', ':', 'a', 'a', 'h', 'h', 'l', 'l', 'p', 'p')},
		{"[[:]", class(':', ':', '[', '[')},
		{"[a[:b]", class(':', ':', '[', '[', 'a', 'b')},
		{"[[.a.]]", cat(class('.', '.', '[', '[', 'a', 'a'), lit(']'))},
		{"[[:lower:]-z]", class('-', '-', 'a', 'z')},
	})
	checkRefusals(t, []refusal{
		{"[[::]", api.ErrRxClass}, {"[[:foo:]]", api.ErrRxClass}, {"[[::]]", api.ErrRxClass}, {"[[:^:]]", api.ErrRxClass}, {"[[:a]:]", api.ErrRxClass}, {"[[:a]b:]", api.ErrRxClass}, {"[[:a]|(x)[b:]", api.ErrRxClass}, {"[[:a][:alpha:]]", api.ErrRxClass}, {"[[:[:alpha:]]", api.ErrRxClass}, {"[[:alpha:][:foo:]]", api.ErrRxClass}, {"[[:alpha :]]", api.ErrRxClass}, {"[[:é:]]", api.ErrRxClass}, {`[[:\:]`, api.ErrRxClass}, {"[[:alpha\n:]]", api.ErrRxClass},
	})
	checkAll(t, texts(5, "[", "]", ":", "^", "a", "-", "[:", ":]", "alpha"))
}

// P8.1, rule 6: what the flag i and the negation make of a class.
func TestFoldedClasses(t *testing.T) {
	checkReadings(t, []reading{
		{"(?i)[a-c]", class('A', 'C', 'a', 'c')},
		{"(?i)[A-C]", class('A', 'C', 'a', 'c')},
		{"(?i)[Z-a]", class('A', 'A', 'Z', 'a', 'z', 'z')},
		{"(?i)[X-c]", class('A', 'C', 'X', 'c', 'x', 'z')},
		{"(?i)[^k]", class(0, 'K'-1, 'K'+1, 'k'-1, 'k'+1, maxRune)},
		{"(?i)[^K]", class(0, 'K'-1, 'K'+1, 'k'-1, 'k'+1, maxRune)},
		{"(?i)[@-z]", class('@', 'z')},
		{"(?i)[[:lower:]]", class('A', 'Z', 'a', 'z')},
		{"(?i)[[:upper:]]", class('A', 'Z', 'a', 'z')},
		{"(?i)[[:^lower:]]", class(0, maxRune)},
		{"(?i)[^[:lower:]]", class(0, 'A'-1, 'Z'+1, 'a'-1, 'z'+1, maxRune)},
		{"(?i)[[:xdigit:]]", class('0', '9', 'A', 'F', 'a', 'f')},
		{"(?i)[é]", lit('é')},
		{"(?i)[\u212A]", lit(0x212A)},
		{"(?i)[à-ÿ]", class('à', 'ÿ')},
		{`(?i)[^\x{0}-@B-\x{10ffff}]`, class()},
		{`[^\x{0}-@B-\x{10ffff}]`, lit('A')},
		{`(?i)[^\x{0}-@B-\x{60}b-\x{10ffff}]`, class('A', 'A', 'a', 'a')},
		{`[^\x{0}-\x{10ffff}]`, class()},
		{`[^\x{1}-\x{10ffff}]`, lit(0)},
		{`[^\x{0}-\x{10fffe}]`, lit(maxRune)},
		{`[^\x{0}]`, class(1, maxRune)},
		{`[^\x{10ffff}]`, class(0, maxRune-1)},
		{`[^\d\D]`, class()},
		{`[^\W]`, class('0', '9', 'A', 'Z', '_', '_', 'a', 'z')},
		{`[^\D]`, class('0', '9')},
		{`[^\n]`, class(0, 9, 11, maxRune)},
		{"(?s)[^a]", class(0, 'a'-1, 'a'+1, maxRune)},
	})
	for lo := rune('@' - 2); lo < '{'+2; lo++ {
		for hi := lo; hi < '{'+2; hi++ {
			bounds := "[" + hexOf(lo) + "-" + hexOf(hi) + "]"
			checkParse(t, "(?i)"+bounds)
			checkParse(t, "(?i)[^"+bounds[1:])
		}
	}
}

func hexOf(r rune) string { return `\x{` + strconv.FormatInt(int64(r), 16) + "}" }

// P8.1, rule 6: classes of many items.
func TestManyClasses(t *testing.T) {
	t.Parallel()
	r := someRand()
	items := []string{"a", "b", "c", "d", "e", "Z", "Y", "@", "-", "--", "a-c", "b-e", "A-Y", "]", "^", "[", ":", "é", "日", `\d`, `\D`, `\s`, `\S`, `\w`, `\W`, `\n`, `\x41`, `\x{10ffff}`, `\x{0}-a`, `é-\x{10ffff}`, `\-`, `\]`, `\\`, "[:alpha:]", "[:^alpha:]", "[:punct:]", "[:^space:]", "[:xdigit:]", "0-5", "6-9"}
	for range 30000 {
		s := []string{"[", "[^", "(?i)[", "(?i)[^"}[r.IntN(4)]
		for range 1 + r.IntN(7) {
			s += items[r.IntN(len(items))]
		}
		checkParse(t, s+"]")
	}
	long := "["
	for c := rune(0x100); len(long) < api.MaxPattern-4; c += 2 {
		long += string(c)
	}
	x, e := rxtree.Parse(long + "]")
	if e != api.OK || len(x.Ranges) < 1500 {
		t.Errorf("a class of many runes: %d, %d ranges", e, len(x.Ranges))
	}
	checkParse(t, long+"]")
}

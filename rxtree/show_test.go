package rxtree_test

import (
	"strings"
	"testing"

	"weir/api"
	"weir/rxtree"
)

// checkTree holds Valid, Show and Groups against the words over a tree that is valid or isn't; and what Show tells must be read back as the same tree.
func checkTree(t *testing.T, x api.Rx, valid bool) {
	t.Helper()
	if got := rxtree.Valid(x); got != valid {
		t.Fatalf("Valid(%v) = %v", x, got)
	}
	want, wantE := "", api.ErrArg
	var names []string
	if valid {
		want, wantE = textByWords(x), api.OK
		for _, n := range nodes(x) {
			if n.Kind == api.RxGroup {
				names = append(names, n.Name)
			}
		}
	}
	if len(want) > api.MaxPattern {
		want, wantE = "", api.ErrLong
	}
	s, e := rxtree.Show(x)
	if s != want || e != wantE {
		t.Fatalf("Show(%v) = %q, %d; want %q, %d", x, s, e, want, wantE)
	}
	if got := rxtree.Groups(x); strings.Join(got, ",") != strings.Join(names, ",") || len(got) != len(names) {
		t.Fatalf("Groups(%v) = %q; want %q", x, got, names)
	}
	if e != api.OK {
		return
	}
	if back, e := rxtree.Parse(s); e != api.OK || !same(back, x) {
		t.Fatalf("Parse(Show(%v)) = Parse(%q) = %v, %d", x, s, back, e)
	}
}

// A telling is a tree with its text.
type telling struct {
	x    api.Rx
	want string
}

func checkTellings(t *testing.T, list []telling) {
	t.Helper()
	for _, c := range list {
		if s, e := rxtree.Show(c.x); e != api.OK || s != c.want {
			t.Errorf("Show(%v) = %q, %d; want %q", c.x, s, e, c.want)
		}
		checkTree(t, c.x, true)
	}
}

// P8.2: the chapter's examples.
func TestShowExamples(t *testing.T) {
	for _, c := range [][2]string{
		{"a(?:bc)d", "a(?:bc)d"}, {"(?:a*)*", "(?:a*)*"}, {"a{2", `a\{2`}, {"(?i)k", "[Kk]"}, {"[]a]", `[\x{5d}a]`}, {".", `[\x{0}-\x{9}\x{b}-\x{10ffff}]`},
		{"(?P<x>a)(?<y>b)", "(?P<x>a)(?P<y>b)"}, {"(?m)^a$", "(?m)^a$"}, {"^a$", `\Aa\z`},
	} {
		checkTellings(t, []telling{{parsed(c[0]), c[1]}})
	}
}

// P8.2: the text of each kind.
func TestShowKinds(t *testing.T) {
	a, b := lit('a'), lit('b')
	checkTellings(t, []telling{
		{empty(), ""},
		{of(api.RxBegin), `\A`},
		{of(api.RxEnd), `\z`},
		{of(api.RxLineBegin), "(?m)^"},
		{of(api.RxLineEnd), "(?m)$"},
		{of(api.RxWord), `\b`},
		{of(api.RxNotWord), `\B`},
		{a, "a"},
		{lit('.'), `\.`},
		{lit('-'), "-"},
		{lit('_'), "_"},
		{lit('"'), `"`},
		{lit(' '), " "},
		{lit(0), `\x{0}`},
		{lit(10), `\x{a}`},
		{lit(31), `\x{1f}`},
		{lit('~'), "~"},
		{lit(127), `\x{7f}`},
		{lit(128), "\u0080"},
		{lit('é'), "é"},
		{lit(0xD7FF), "\uD7FF"},
		{lit(0xD800), `\x{d800}`},
		{lit(0xDFFF), `\x{dfff}`},
		{lit(0xE000), "\uE000"},
		{lit(0xFFFD), "\uFFFD"},
		{lit(maxRune), "\U0010FFFF"},
		{class(), `[^\x{0}-\x{10ffff}]`},
		{class('a', 'b'), "[a-b]"},
		{class('a', 'a', 'c', 'c'), "[ac]"},
		{class('0', '9', 'A', 'Z', '_', '_', 'a', 'z'), `[0-9A-Z\x{5f}a-z]`},
		{class('/', ':'), `[\x{2f}-\x{3a}]`},
		{class('@', '['), `[\x{40}-\x{5b}]`},
		{class('`', '{'), `[\x{60}-\x{7b}]`},
		{class('-', '-', ']', '^', '`', '`'), `[\x{2d}\x{5d}-\x{5e}\x{60}]`},
		{class('é', 'ü'), `[\x{e9}-\x{fc}]`},
		{class(0, maxRune), `[\x{0}-\x{10ffff}]`},
		{class(0xD800, 0xDFFF), `[\x{d800}-\x{dfff}]`},
		{cat(a, b), "ab"},
		{alt(a, b), "a|b"},
		{alt(empty(), empty()), "|"},
		{alt(empty(), a, empty()), "|a|"},
		{rep(0, -1, a), "a*"},
		{rep(1, -1, a), "a+"},
		{rep(0, 1, a), "a?"},
		{rep(0, 0, a), "a{0}"},
		{rep(1, 1, a), "a{1}"},
		{rep(2, 2, a), "a{2}"},
		{rep(2, -1, a), "a{2,}"},
		{rep(0, 2, a), "a{0,2}"},
		{rep(1, 2, a), "a{1,2}"},
		{rep(1000, 1000, a), "a{1000}"},
		{rep(1000, -1, a), "a{1000,}"},
		{rep(0, 1000, a), "a{0,1000}"},
		{lazy(0, -1, a), "a*?"},
		{lazy(1, -1, a), "a+?"},
		{lazy(0, 1, a), "a??"},
		{lazy(3, 3, a), "a{3}?"},
		{lazy(3, -1, a), "a{3,}?"},
		{lazy(3, 4, a), "a{3,4}?"},
		{group(1, "", a), "(a)"},
		{group(1, "x", a), "(?P<x>a)"},
		{group(1, "", empty()), "()"},
		{group(1, "x", empty()), "(?P<x>)"},
		{alt(a, of(api.RxLineEnd)), "(?m)a|$"},
		{rep(0, -1, of(api.RxLineBegin)), "(?m)^*"},
		{group(1, "", rep(0, -1, cat(a, of(api.RxLineBegin)))), "(?m)((?:a^)*)"},
		{alt(of(api.RxLineBegin), of(api.RxLineEnd)), "(?m)^|$"},
		{cat(lit('('), lit('?'), lit('m'), lit(')')), `\(\?m\)`},
		{cat(lit('a'), lit('{'), lit('2'), lit('}')), `a\{2\}`},
		{cat(rep(0, -1, a), lit('?')), `a*\?`},
		{lit('é'), "é"},
	})
	for r := range rune(0x3000) {
		checkTree(t, lit(r), true)
		checkTree(t, class(r, r+1), true)
		checkTree(t, rep(0, 1, lit(r)), true)
		checkTree(t, cat(rep(0, -1, a), lit(r)), true)
	}
}

// P8.2: where brackets stand and where they don't: every kind in every kind.
func TestShowBrackets(t *testing.T) {
	a, b := lit('a'), lit('b')
	kids := []struct {
		x                        api.Rx
		text                     string
		inAlt, inCat, inRepeated bool
	}{
		{empty(), "", false, true, true},
		{a, "a", false, false, false},
		{class('a', 'b'), "[a-b]", false, false, false},
		{cat(a, b), "ab", false, true, true},
		{alt(a, b), "a|b", true, true, true},
		{rep(0, -1, a), "a*", false, false, true},
		{lazy(2, 2, a), "a{2}?", false, false, true},
		{group(1, "", a), "(a)", false, false, false},
		{group(1, "x", a), "(?P<x>a)", false, false, false},
		{of(api.RxBegin), `\A`, false, false, false},
		{of(api.RxEnd), `\z`, false, false, false},
		{of(api.RxWord), `\b`, false, false, false},
		{of(api.RxNotWord), `\B`, false, false, false},
	}
	put := func(s string, brackets bool) string {
		if brackets {
			return "(?:" + s + ")"
		}
		return s
	}
	for _, k := range kids {
		checkTellings(t, []telling{
			{k.x, k.text},
			{alt(k.x, lit('c')), put(k.text, k.inAlt) + "|c"},
			{alt(lit('c'), k.x), "c|" + put(k.text, k.inAlt)},
			{cat(k.x, lit('c')), put(k.text, k.inCat) + "c"},
			{cat(lit('c'), k.x), "c" + put(k.text, k.inCat)},
			{cat(lit('c'), k.x, lit('d')), "c" + put(k.text, k.inCat) + "d"},
			{rep(0, -1, k.x), put(k.text, k.inRepeated) + "*"},
			{lazy(2, 3, k.x), put(k.text, k.inRepeated) + "{2,3}?"},
			{numbered(group(1, "", k.x)), "(" + strings.ReplaceAll(k.text, "<x>", "<n2>") + ")"},
		})
	}
	for _, kind := range []int{api.RxLineBegin, api.RxLineEnd} {
		sign := map[int]string{api.RxLineBegin: "^", api.RxLineEnd: "$"}[kind]
		checkTellings(t, []telling{
			{alt(of(kind), a), "(?m)" + sign + "|a"}, {cat(a, of(kind)), "(?m)a" + sign}, {rep(1, -1, of(kind)), "(?m)" + sign + "+"}, {group(1, "", of(kind)), "(?m)(" + sign + ")"},
		})
	}
}

// P8.2: a text of MaxPattern bytes is told, one of a byte more isn't, whatever its last bytes are.
func TestShowLimit(t *testing.T) {
	t.Parallel()
	// endsWith: a tree whose text has n bytes, the last ones those of x.
	endsWith := func(n int, x api.Rx) api.Rx {
		return cat(append(slicesOf(n-len(textByWords(x)), lit('a')), x)...)
	}
	for _, x := range []api.Rx{
		lit('a'), lit('é'), lit('日'), lit('.'), lit(0), lit(maxRune), class(), class('a', 'b'), class('a', 'a', 'c', 'c'), class(0, maxRune), rep(0, -1, lit('a')), lazy(0, -1, lit('a')), lazy(2, 1000, lit('a')),
		group(1, "", lit('a')), group(1, "", empty()), group(1, "name", lit('a')), of(api.RxBegin), of(api.RxWord), of(api.RxLineBegin), of(api.RxLineEnd),
	} {
		for n := api.MaxPattern - 1; n < api.MaxPattern+3; n++ {
			y := endsWith(n, x)
			if len(textByWords(y)) != n {
				t.Fatalf("a text of %d bytes, not %d", len(textByWords(y)), n)
			}
			if _, e := rxtree.Show(y); (e == api.OK) != (n <= api.MaxPattern) || e != api.OK && e != api.ErrLong {
				t.Fatalf("a text of %d bytes, with %v last: %d", n, x, e)
			}
			checkTree(t, y, true)
		}
	}
	bars := alt(slicesOf(api.MaxPattern+1, empty())...)
	checkTree(t, bars, true)
	if _, e := rxtree.Show(bars); e != api.OK {
		t.Errorf("MaxPattern bars: %d", e)
	}
	bars.Kids = append(bars.Kids, empty())
	checkTree(t, bars, true)
	if _, e := rxtree.Show(bars); e != api.ErrLong {
		t.Errorf("one bar more: %d", e)
	}
}

// P8.2: a tree that isn't valid is ErrArg, however long its text would be.
func TestShowOrderOfErrors(t *testing.T) {
	kids := kidsOf(strings.Repeat("a", api.MaxPattern+1))
	checkTree(t, cat(kids...), true)
	kids[len(kids)-1] = api.Rx{}
	checkTree(t, cat(kids...), false)
	checkTree(t, cat(append(kidsOf(strings.Repeat("a", api.MaxPattern+1)), group(2, "", empty()))...), false)
	if _, e := rxtree.Show(group(1, strings.Repeat("n", api.MaxPattern), empty())); e != api.ErrLong {
		t.Errorf("a long name: %d", e)
	}
	checkTree(t, group(1, strings.Repeat("n", api.MaxPattern-len("(?P<>)")), empty()), true)
	checkTree(t, group(1, strings.Repeat("n", api.MaxPattern-len("(?P<>)")+1), empty()), true)
}

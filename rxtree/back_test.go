package rxtree_test

import (
	"strings"
	"testing"

	"weir/api"
	"weir/rxtree"
)

// P8.3: all small trees come back from their texts.
func TestSmallTreesComeBack(t *testing.T) {
	t.Parallel()
	small := append(leaves(), about(leaves())...)
	for _, x := range small {
		checkTree(t, x, true)
	}
	few := []api.Rx{empty(), lit('a'), lit('?'), class('a', 'b'), of(api.RxLineBegin)}
	two := append(few, about(few)...)
	for _, x := range about(two) {
		checkTree(t, x, true)
	}
	fewer := []api.Rx{empty(), lit('{')}
	for range 2 {
		fewer = append(fewer[:2:2], about(fewer)...)
	}
	for _, x := range fewer {
		for _, y := range []api.Rx{cat(x, lit('2'), lit('}')), alt(lit('('), x, x), rep(0, 1, cat(x, x)), group(1, "n", alt(x, x)), lazy(1, -1, rep(0, -1, x))} {
			checkTree(t, numbered(y), true)
		}
	}
}

// P8.3: trees made at random come back from their texts.
func TestManyTreesComeBack(t *testing.T) {
	t.Parallel()
	r := someRand()
	short := 0
	for i := range 20000 {
		x := someTree(r, 1+i%6)
		valid := validByWords(x)
		checkTree(t, x, valid)
		if s, e := rxtree.Show(x); e == api.OK && len(s) < 300 {
			short++
		}
	}
	if short < 7000 {
		t.Errorf("only %d short texts", short)
	}
}

// P8.3: a tree at every limit at one time comes back.
func TestGreatTreesComeBack(t *testing.T) {
	x := cat(of(api.RxLineBegin), rep(0, -1, empty()))
	for range api.MaxRxDepth - api.MaxRxGroups - 1 {
		x = lazy(0, 1, x)
	}
	for i := api.MaxRxGroups; i > 0; i-- {
		x = group(i, "", x)
	}
	checkTree(t, x, true)
	if depth := depthOf(textByWords(x)); depth != api.MaxRxDepth {
		t.Fatalf("%d brackets", depth)
	}
	s, e := rxtree.Show(x)
	if e != api.OK {
		t.Fatalf("Show: %d", e)
	}
	full := cat(append([]api.Rx{x}, slicesOf(api.MaxPattern-len(s), lit('a'))...)...)
	if s, e := rxtree.Show(full); e != api.OK || len(s) != api.MaxPattern {
		t.Errorf("%d bytes, %d", len(s), e)
	}
	checkTree(t, full, true)
}

// P8.2: Quote puts a backslash ahead of the fourteen bytes and changes nothing else, whatever the text is.
func TestQuote(t *testing.T) {
	if s := rxtree.Quote("a.b[c]"); s != `a\.b\[c\]` {
		t.Errorf("Quote = %q", s)
	}
	for _, c := range [][2]string{
		{"", ""}, {"abc", "abc"}, {`\.+*?()|[]{}^$`, `\\\.\+\*\?\(\)\|\[\]\{\}\^\$`}, {"a-b_c d", "a-b_c d"}, {"é.日", `é\.日`}, {"\xff.\xc3", "\xff\\.\xc3"}, {"\x00\n", "\x00\n"}, {`\\`, `\\\\`}, {`\E`, `\\E`}, {"..", `\.\.`},
	} {
		if s := rxtree.Quote(c[0]); s != c[1] {
			t.Errorf("Quote(%q) = %q; want %q", c[0], s, c[1])
		}
	}
	for i := range 256 {
		one := string([]byte{byte(i)})
		for _, s := range []string{one, one + one, "a" + one + "b", "\\" + one, one + "\xc3", "é" + one} {
			if got := rxtree.Quote(s); got != quotedByWords(s) {
				t.Fatalf("Quote(%q) = %q; want %q", s, got, quotedByWords(s))
			}
		}
	}
	long := strings.Repeat("a.\xff", 1<<20)
	if got := rxtree.Quote(long); got != strings.Repeat("a\\.\xff", 1<<20) {
		t.Error("Quote of a long text")
	}
}

// P8.4: what is quoted is read as the row of its runes, as long as it is no longer than a pattern may be.
func TestQuotedIsRead(t *testing.T) {
	check := func(s string) {
		t.Helper()
		q := rxtree.Quote(s)
		x, e := rxtree.Parse(q)
		if len(q) > api.MaxPattern {
			if e != api.ErrLong {
				t.Fatalf("Parse(Quote(%.40q)): %d", s, e)
			}
			return
		}
		if e != api.OK || !same(x, row(s)) {
			t.Fatalf("Parse(Quote(%q)) = %v, %d", s, x, e)
		}
	}
	for _, s := range texts(3, strings.Split(`\.+*?()|[]{}^$-a2,:QExé`, "")...) {
		check(s)
	}
	for r := range rune(0x3000) {
		if r < 0x80 || r > 0x7F {
			check(string(r))
			check("a" + string(r) + "*")
		}
	}
	for r := rune(0x3000); r <= maxRune; r += 97 {
		if r < 0xD800 || r > 0xDFFF {
			check(string(r))
		}
	}
	for _, s := range []string{"(?i)a", "a{2}", "[a-z]", `\Qa\E`, "[[:alpha:]]", "^a$", "(?P<x>a)", "a|b", "\U0010FFFF", "\x00", `\x{41}`} {
		check(s)
	}
	for _, n := range []int{api.MaxPattern/2 - 1, api.MaxPattern / 2, api.MaxPattern/2 + 1, api.MaxPattern - 1, api.MaxPattern, api.MaxPattern + 1} {
		check(strings.Repeat("a", n))
		check(strings.Repeat(".", n))
		check(strings.Repeat("é", n/2))
	}
	r := someRand()
	for range 5000 {
		var rs []rune
		for range r.IntN(40) {
			rs = append(rs, rune(r.IntN(0x180)))
		}
		check(string(rs))
	}
}

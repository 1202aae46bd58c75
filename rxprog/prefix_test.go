package rxprog_test

import (
	"strings"
	"testing"

	"weir/api"
	"weir/rxprog"
)

func checkPrefix(t *testing.T, x api.Rx, want string) {
	t.Helper()
	if got := rxprog.Prefix(x); got != want {
		t.Errorf("Prefix of %s = %.40q, not %.40q", told(x), got, want)
	}
}

// P9.7: the chapter's examples, and each kind of node, exact (the row goes on behind it) and not.
func TestPrefix(t *testing.T) {
	for pattern, want := range map[string]string{
		"abc.*": "abc", "^ab(?:c|cd)": "abc", "a{3,}": "aaa", "ab|ac": "a", "(?:ab){2}c": "ababc", "a?b": "",
		"": "", "a": "a", "é": "é", "[ab]": "", `[^\x{0}-\x{10ffff}]`: "", "(a)b": "ab", "(?P<n>a*)b": "", "^a": "a", "a$b": "ab", `\Aa\zb`: "ab", "(?m)a^b$c": "abc", `a\bb\Bc`: "abc", "a(?:)b": "ab", "(?i)a": "", "x(?i)a": "x", ".a": "", "a.b": "a", "ab[cd]e": "ab",
		"a|b": "", "a|a": "a", "(?:a|a)b": "ab", "(?:ab|a)c": "a", "(?:a|ab)c": "a", "(?:a|ab)": "a", "abc|abd|ab": "ab", "abc|abd|x": "", "(?:|a)b": "", "(?:|)b": "b", "(?:^|$)b": "b", `(?:\b|)b`: "b", "(?:a.|a.)b": "a", "(?:a.|a)b": "a", "(?:a|a.)b": "a", "(?:ab|ab|ab)c": "abc", "(?:ab|ab|ac)c": "a", "(?:ac|ab|ab)c": "a", "(?:ab|ac|ab)c": "a", "(?:^ab|a(?:b))c": "abc", "ab(?:c|c*)": "ab", "(?:a|b*)c": "",
		"a*": "", "a*b": "", "(?:)*b": "b", "(?:^)*b": "b", "(?:^)?b": "b", "(?:^|)+b": "b", "a+": "a", "a+b": "a", "a{2}b": "aab", "a{2,3}b": "aa", "a{2,2}b": "aab", "a{0}b": "b", "(?:.){0}b": "b", "(?:a{0}){5,}b": "b", "(?:^){2,5}b": "b", "(?:^a)+b": "a", "(?:a*){2}b": "", "(?:ab*){2}c": "a", "(?:ab){3}": "ababab", "(?:ab){3,4}c": "ababab", "(?:a{2}){2}b": "aaaab", "(?:a{2}){2,}b": "aaaa", "(?:a+){2}b": "a", "(?:[ab]){2}c": "", "(?:a??)b": "", "a{2,}?b": "aa", "a{1}?b": "ab", "(?:(?:)?)*b": "b", "(?:[^\\x{0}-\\x{10ffff}])?b": "", "(?:a|a){2}b": "aab",
	} {
		checkPrefix(t, tree(t, pattern), want)
	}
}

// P9.7: alternatives that part within a rune's form have no byte of it in common.
func TestPrefixOfRunes(t *testing.T) {
	for pattern, want := range map[string]string{
		"é|è": "", "(?:é|è)x": "", "aé|aè": "a", "éa|éb": "é", "日本|日曜": "日", "日|昦": "", "😀|😁": "", "x😀|x😁y": "x", "é|éé": "é", "(?:é|é)a": "éa", "é|Ã": "", "ab|aé": "a", "aé|a": "a", "ÿ{2}|ÿ{3}": "ÿÿ", "日a|日": "日", "\uFFFDa|\uFFFDb": "\uFFFD",
	} {
		checkPrefix(t, tree(t, pattern), want)
	}
	checkPrefix(t, lit(0), "\x00")
	checkPrefix(t, lit(runesEnd), "\U0010FFFF")
	checkPrefix(t, lit(0xD7FF), "\uD7FF")
	checkPrefix(t, lit(0xE000), "\uE000")
	for _, r := range []rune{0xD800, 0xDBFF, 0xDC00, 0xDFFF} {
		checkPrefix(t, lit(r), "")
		checkPrefix(t, cat(lit('a'), lit(r), lit('b')), "a")
		checkPrefix(t, cat(lit(r), lit('b')), "")
		checkPrefix(t, cat(alt(lit(r), lit(r)), lit('b')), "")
		checkPrefix(t, cat(rep(0, 1, lit(r)), lit('b')), "")
		checkPrefix(t, cat(rep(2, 2, lit(r)), lit('b')), "")
		checkPrefix(t, cat(rep(0, 0, lit(r)), lit('b')), "b")
		checkPrefix(t, cat(alt(lit(r), empty()), lit('b')), "")
	}
}

// P9.7: "" of a tree that isn't valid or is too big; of one that just isn't, all of it.
func TestPrefixLimits(t *testing.T) {
	t.Parallel()
	for _, x := range wrongTrees() {
		checkPrefix(t, x, "")
		checkPrefix(t, cat(lit('a'), x), "")
		checkPrefix(t, cat(lit('a'), rep(0, 0, x)), "")
	}
	for n := api.MaxInst - 2; n < api.MaxInst+3; n++ {
		want := ""
		if n <= api.MaxInst {
			want = strings.Repeat("é", 9000) + strings.Repeat("b", n-9001)
		}
		checkPrefix(t, cat(append(many(9, rep(1000, 1000, lit('é'))), many(n-9001, lit('b'))...)...), want)
	}
	thousand := func(x api.Rx) api.Rx { return rep(1000, 1000, x) }
	checkPrefix(t, nested(api.MaxRxDepth, lit('a'), thousand), "")
	checkPrefix(t, cat(lit('a'), nested(2, lit('b'), thousand)), "")
	checkPrefix(t, cat(nested(api.MaxRxDepth-2, empty(), thousand), lit('b')), "b")
	checkPrefix(t, cat(rep(0, 0, nested(api.MaxRxDepth-2, lit('a'), thousand)), lit('b')), "b")
	checkPrefix(t, nested(api.MaxRxDepth, cat(many(7000, lit('😀'))...), func(x api.Rx) api.Rx { return cat(x, lit('a')) }), strings.Repeat("😀", 7000)+strings.Repeat("a", api.MaxRxDepth))
}

// P9.7: by the words, of small trees and trees made at random; and whatever a tree matches begins with its prefix.
func TestPrefixByWords(t *testing.T) {
	t.Parallel()
	all := smallTrees()
	r := someRand()
	for i := range 20000 {
		all = append(all, someTree(r, 1+i%5, []int{0, 1, 1, 2, 3}))
	}
	texts := append(textsOver("aéb", 3), "a_", "\na", "aaaaab", "aab_", "a\nb", "ééa")
	some, long := 0, 0
	for i, x := range all {
		text, _ := prefixByWords(x)
		want := string(text)
		if sizeByWords(x) > api.MaxInst {
			want = ""
		}
		if got := rxprog.Prefix(x); got != want {
			t.Fatalf("Prefix of %s = %q, not %q", told(x), got, want)
		}
		if want != "" {
			some++
		}
		if len(text) > 1 {
			long++
		}
		if i%10 == 0 && sizeByWords(x) < 500 {
			checkBegins(t, x, texts)
		}
	}
	if some < 3000 || long < 1000 {
		t.Errorf("%d prefixes, %d of more than one rune", some, long)
	}
}

// checkBegins: from whatever place to whatever place a tree matches, the bytes between begin with its prefix.
func checkBegins(t *testing.T, x api.Rx, texts []string) {
	t.Helper()
	prefix := rxprog.Prefix(x)
	for _, s := range texts {
		for i := range s {
			from := make([]bool, len(s)+1)
			from[i] = true
			for j, ok := range behind(x, s, from) {
				if ok && !strings.HasPrefix(s[i:j], prefix) {
					t.Fatalf("%s: matches %q from %d to %d, which doesn't begin with %q", told(x), s, i, j, prefix)
				}
			}
		}
	}
}

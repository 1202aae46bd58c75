package lex_test

import (
	"regexp"
	"slices"
	"strings"
	"testing"

	"weir/api"
	"weir/lex"
)

// P11.4: Join of no token, of one, and of tokens that Scan never made.
func TestJoin(t *testing.T) {
	for _, c := range []struct {
		texts []string
		want  string
	}{
		{nil, ""},
		{[]string{}, ""},
		{[]string{"a"}, "a"},
		{[]string{""}, ""},
		{[]string{"", ""}, " "},
		{[]string{"", "a", ""}, " a "},
		{[]string{"a", "+", "b"}, "a + b"},
		{[]string{"(", ")", "{", "}"}, "( ) { }"},
		{[]string{" ", "#", "\n"}, "  # \n"},
		{[]string{"\xff", "\x00", "'"}, "\xff \x00 '"},
		{[]string{"5", "m"}, "5 m"},
	} {
		var toks []api.Token
		for i, s := range c.texts {
			toks = append(toks, api.Token{Kind: i*7 - 3, Text: s, At: -i})
		}
		if got := lex.Join(toks); got != c.want {
			t.Errorf("Join of %q = %q; want %q", c.texts, got, c.want)
		}
	}
}

// P11.4: whatever the tokens are, Join is their Texts with a blank between each two.
func TestJoinMany(t *testing.T) {
	var toks []api.Token
	var list []string
	for i, s := range pieces() {
		for kind := -1; kind < 8; kind++ {
			toks, list = append(toks, api.Token{Kind: kind, Text: s, At: i - 50}), append(list, s)
			if got, want := lex.Join(toks), strings.Join(list, " "); got != want {
				t.Fatalf("Join of %d tokens = %q; want %q", len(toks), got, want)
			}
		}
	}
}

var (
	labels  = regexp.MustCompile(`\A[A-Za-z_][A-Za-z0-9_]*\z`)
	metrics = regexp.MustCompile(`\A[A-Za-z_:][A-Za-z0-9_:]*\z`)
)

// P11.4: IsLabel and IsMetric at each first byte and at each later one.
func TestNames(t *testing.T) {
	yes := 0
	ask := func(s string) {
		if got, want := lex.IsLabel(s), labels.MatchString(s); got != want {
			t.Fatalf("IsLabel(%q) = %v", s, got)
		}
		if got, want := lex.IsMetric(s), metrics.MatchString(s); got != want {
			t.Fatalf("IsMetric(%q) = %v", s, got)
		}
		if lex.IsMetric(s) {
			yes++
		}
	}
	for s := range texts(2, eachByte()...) {
		ask(s)
		ask("ab" + s)
		ask(s + "ab")
		ask("a" + s + "1")
		ask("_:" + s)
	}
	for s := range texts(4, "a", "Z", "_", ":", "0", "9", "", " ", "\n", "\u00e9", "\u212a", "/", "@", "`", "{") {
		ask(s)
	}
	ask(strings.Repeat("a", 1<<20))
	ask(strings.Repeat("a", 1<<20) + "-")
	if yes < 10000 {
		t.Errorf("%d names are names", yes)
	}
	if lex.IsLabel("a:b") || !lex.IsMetric("a:b") || lex.IsLabel("") || lex.IsMetric("") {
		t.Error("the chapter's examples")
	}
}

// keywords: the chapter's list.
func keywords() []string {
	return strings.Fields("and bool by group_left group_right ignoring offset on or unless without avg bottomk count count_values group max min quantile stddev stdvar sum topk")
}

// wantWord: what the chapter says of Word, without its way of turning letters.
func wantWord(s string) (string, bool) {
	for _, k := range keywords() {
		if len(s) == len(k) && strings.EqualFold(s, k) { // (runes beyond ASCII that fold to letters are longer)
			return k, true
		}
	}
	return "", false
}

// P11.4: Word for each keyword, its letters in either case.
func TestKeywords(t *testing.T) {
	if n := len(keywords()); n != 23 {
		t.Fatalf("%d keywords", n)
	}
	for _, k := range keywords() {
		for _, s := range cases(k) {
			if w, ok := lex.Word(s); w != k || !ok {
				t.Fatalf("Word(%q) = %q, %v", s, w, ok)
			}
		}
	}
}

// P11.4: words that are none: keywords with a byte put in, taken out or turned, and others.
func TestNoKeywords(t *testing.T) {
	none := 0
	ask := func(s string) {
		got, ok := lex.Word(s)
		if want, is := wantWord(s); got != want || ok != is {
			t.Fatalf("Word(%q) = %q, %v", s, got, ok)
		}
		if !ok {
			none++
		}
	}
	for _, k := range keywords() {
		for i := range len(k) + 1 {
			for _, b := range eachByte() {
				ask(k[:i] + b + k[i:])
				if i < len(k) {
					ask(k[:i] + b + k[i+1:])
				}
			}
			if i < len(k) {
				ask(k[:i] + k[i+1:])
				ask(k[:i])
			}
		}
		ask(strings.ReplaceAll(k, "k", "\u212a"))
		ask(strings.ReplaceAll(k, "s", "\u017f"))
		ask(strings.ReplaceAll(k, "_", "?"))
		ask(strings.ReplaceAll(k, "_", "\x7f"))
		ask(" " + k)
		ask(k + k)
	}
	for _, s := range append(slices.Clone(pieces()), "rate", "abs", "if", "not", "limitk", "present", "scalar", strings.Repeat("by", 1<<20)) {
		ask(s)
	}
	if none < 50000 {
		t.Errorf("%d words are none", none)
	}
	if w, ok := lex.Word("BY"); w != "by" || !ok {
		t.Error("Word(BY)")
	}
}

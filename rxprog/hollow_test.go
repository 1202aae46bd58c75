package rxprog_test

import (
	"testing"

	"weir/api"
	"weir/rxprog"
)

// P9.5: the chapter's examples, and each kind of node.
func TestHollow(t *testing.T) {
	for _, pattern := range []string{"a*", "", `\b|$`, `\B`, "^", "$", "(?m)^", "(?m)$", `\A`, `\z`, "^$", "a?", "a{0,3}", "a{0}", "(a|)", "()", "(?:)", "(?:){3}", "a|", "a|b|", "|a", "a*b*", "(?:a*){5}", "(?:a*)+", "(?:^)+", "(?:a|b?)c*", `[^\x{0}-\x{10ffff}]*`, `(?:\b){0}`, `\B{2}`, "a*?", "(?:a??){2,}?"} {
		if !rxprog.Hollow(tree(t, pattern)) {
			t.Errorf("Hollow(%q) = false", pattern)
		}
	}
	for _, pattern := range []string{`\b`, "a", "é", "[ab]", `[^\x{0}-\x{10ffff}]`, ".", "ab", "a*b", "ab*", "a+", "a{2,}", "a{1}", "(a)", "(?:a|b)", "(?:a|b)c*", "^a$", `\b|a`, `(?:\b)+`, `\b{3}`, `a*\b`, `\B\b`, "(?:a|)b", "a*?b", `\n`} {
		if rxprog.Hollow(tree(t, pattern)) {
			t.Errorf("Hollow(%q) = true", pattern)
		}
	}
}

// P9.5: a tree that isn't valid isn't hollow, though what is right of it would be.
func TestHollowOfWrongTrees(t *testing.T) {
	for i, x := range wrongTrees() {
		for _, y := range []api.Rx{x, rep(0, -1, x), rep(0, 0, x), alt(empty(), x), cat(empty(), x)} {
			if rxprog.Hollow(y) {
				t.Errorf("wrong tree %d", i)
			}
		}
	}
}

// P9.5: by the words, over trees of any size: no program is needed.
func TestHollowByWords(t *testing.T) {
	t.Parallel()
	r := someRand()
	seen := map[bool]int{}
	for i, x := range smallTrees() {
		if got := rxprog.Hollow(x); got != matches(x, "") {
			t.Fatalf("tree %d, %s: %v", i, told(x), got)
		}
	}
	for i := range 20000 {
		x := someTree(r, 1+i%5, []int{0, 1, 2, 5})
		want := matches(x, "")
		seen[want]++
		if rxprog.Hollow(x) != want {
			t.Fatalf("%s: %v", told(x), !want)
		}
	}
	if seen[true] < 2000 || seen[false] < 2000 {
		t.Errorf("%v", seen)
	}
	thousand := func(x api.Rx) api.Rx { return rep(1000, 1000, x) }
	if rxprog.Hollow(nested(api.MaxRxDepth, lit('a'), thousand)) || !rxprog.Hollow(nested(api.MaxRxDepth-1, rep(0, 1, lit('a')), thousand)) || !rxprog.Hollow(rep(0, -1, nested(api.MaxRxDepth-1, lit('a'), thousand))) {
		t.Error("trees that are too big for a program")
	}
}

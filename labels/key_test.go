package labels_test

import (
	"fmt"
	"testing"

	"weir/api"
	"weir/labels"
)

// A ledger holds keys against what Keep leaves: one key a list, and one list a key.
type ledger struct {
	lists, keys map[string]string
}

func newLedger() ledger { return ledger{map[string]string{}, map[string]string{}} }

func (g ledger) check(t *testing.T, ls []api.Label, names []string, without bool) {
	t.Helper()
	key, kept := labels.Key(ls, names, without), fmt.Sprintf("%q", wordsKeep(ls, names, without))
	if other, known := g.keys[kept]; known && other != key {
		t.Fatalf("Key(%q, %q, %t) = %q, and of the same labels %q", ls, names, without, key, other)
	}
	if other, known := g.lists[key]; known && other != kept {
		t.Fatalf("Key(%q, %q, %t) = %q, which is the key of %s too", ls, names, without, key, other)
	}
	g.keys[kept], g.lists[key] = key, kept
}

// P16.3: pairs of lists that a key without care would mix up.
func TestKeyExamples(t *testing.T) {
	for _, c := range []struct {
		a, b []api.Label
		same bool
	}{
		{nil, nil, true},
		{set("a", "1"), set("a", "1"), true},
		{set("a", "1"), set("__name__", "up", "a", "1"), true},
		{set("__name__", "up", "a", "1", "__name__", "down"), set("a", "1"), true},
		{nil, set("", ""), false},
		{set("", ""), set("", "", "", ""), false},
		{set("a", "1", "b", "2"), set("b", "2", "a", "1"), false},
		{set("a", "1", "b", "2"), set("a", "1b", "2", ""), false},
		{set("a", "bc"), set("ab", "c"), false},
		{set("a", "b", "c", "d"), set("a", "b\"c", "d", ""), false},
		{set("a", "1", "b", "2"), set("a", "1,b=2"), false},
		{set("a", "1", "b", "2"), set("a", "1\x00b\x002"), false},
		{set("a", "1\x00", "b", "2"), set("a", "1", "\x00b", "2"), false},
		{set("a", "1\xff", "b", "2"), set("a", "1", "\xffb", "2"), false},
		{set("a", "1", "b", "2"), set("a", "1\", b=\"2"), false},
		{set("a", "1:11:b"), set("a", "1", "b", ""), false},
		{set("a", "1", "a", "1"), set("a", "1"), false},
		{set("a", "1"), set("a", "1", "b", ""), false},
		{set("a", "\xff"), set("a", "\xfe"), false},
		{set("a", "\xff"), set("a", "�"), false},
	} {
		if got := labels.Key(c.a, nil, true) == labels.Key(c.b, nil, true); got != c.same {
			t.Errorf("the keys of %q and %q: the same is %t", c.a, c.b, got)
		}
	}
	up := set("__name__", "up", "a", "1", "b", "2")
	if labels.Key(up, []string{"a"}, false) != labels.Key(up, []string{"b", "b"}, true) {
		t.Error("two keys of one list, with and without")
	}
	if labels.Key(up, []string{"a", "__name__"}, false) == labels.Key(up, []string{"b"}, true) {
		t.Error("one key with the name and without it")
	}
}

// P16.3: every small list of short texts made of the signs that a key might use between its parts.
func TestKeySmall(t *testing.T) {
	for _, signs := range []string{"1:", "a\x00", "\",", "{}", "=\xff", "2;", "|/", "\\\"", "a1", "0:"} {
		texts := []string{"", signs[:1], signs[1:2], signs, signs[1:2] + signs[:1], signs[:1] + signs[:1], signs[1:2] + signs[1:2]}
		g := newLedger()
		for _, ls := range small(pairsOf(texts, texts), 2) {
			g.check(t, ls, nil, true)
			g.check(t, ls, texts, false)
			g.check(t, ls, texts[:2], false)
			g.check(t, ls, texts[:2], true)
		}
	}
	g := newLedger()
	for _, ls := range small(pairsOf([]string{"a", "b", "__name__"}, []string{"", "1", "11"}), 3) {
		for _, names := range [][]string{nil, {"a"}, {"b", "a"}, {"__name__", "a", "a"}, {"x", ""}} {
			g.check(t, ls, names, true)
			g.check(t, ls, names, false)
		}
	}
}

// P16.3: lists and names by chance; and texts whose lengths have other numbers of digits.
func TestKeyByChance(t *testing.T) {
	c, g := newChance(6), newLedger()
	for range 40000 {
		ls, names := c.any(3), c.names(3)
		g.check(t, ls, names, true)
		g.check(t, ls, names, false)
	}
	for n := range 130 {
		for m := range 130 {
			long := fmt.Sprintf("%0*d", n+m, 0)
			g.check(t, set(long[:n], long[n:]), nil, true)
			g.check(t, set(long[:n], "", "", long[n:]), nil, true)
		}
	}
}

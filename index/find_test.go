package index_test

import (
	"slices"
	"testing"

	"weir/api"
	"weir/index"
	"weir/labels"
)

func match(name string, op int, value string) api.Matcher {
	return api.Matcher{Name: name, Op: op, Value: value}
}

// P18.4: the chapter's examples, all four operators with values that are empty, patterns that take the empty text, lists of texts and patterns without an end, of a name that some sets have and of one that none has.
func TestFindExamples(t *testing.T) {
	x := made(t, example())
	all := []int{0, 1, 2, 3}
	for _, c := range []struct {
		ms   []api.Matcher
		want []int
	}{
		{nil, all},
		{[]api.Matcher{}, all},
		{[]api.Matcher{match("job", api.MatchRe, "a|b"), match("__name__", api.MatchNe, "")}, []int{0, 2}},
		{[]api.Matcher{match("job", api.MatchNre, "a")}, []int{1, 2, 3}},
		{[]api.Matcher{match("job", api.MatchEq, "a")}, []int{0}},
		{[]api.Matcher{match("job", api.MatchEq, "b")}, []int{1, 2}},
		{[]api.Matcher{match("job", api.MatchEq, "c")}, nil},
		{[]api.Matcher{match("job", api.MatchEq, "a|b")}, nil},
		{[]api.Matcher{match("job", api.MatchEq, "")}, []int{3}},
		{[]api.Matcher{match("job", api.MatchNe, "")}, []int{0, 1, 2}},
		{[]api.Matcher{match("job", api.MatchNe, "b")}, []int{0, 3}},
		{[]api.Matcher{match("job", api.MatchNe, "c")}, all},
		{[]api.Matcher{match("job", api.MatchRe, "")}, []int{3}},
		{[]api.Matcher{match("job", api.MatchRe, "a|")}, []int{0, 3}},
		{[]api.Matcher{match("job", api.MatchRe, "b?")}, []int{1, 2, 3}},
		{[]api.Matcher{match("job", api.MatchRe, ".*")}, all},
		{[]api.Matcher{match("job", api.MatchRe, ".+")}, []int{0, 1, 2}},
		{[]api.Matcher{match("job", api.MatchRe, "[^a]+")}, []int{1, 2}},
		{[]api.Matcher{match("job", api.MatchRe, "[^a]*")}, []int{1, 2, 3}},
		{[]api.Matcher{match("__name__", api.MatchRe, "u")}, nil},
		{[]api.Matcher{match("job", api.MatchNre, "")}, []int{0, 1, 2}},
		{[]api.Matcher{match("job", api.MatchNre, ".*")}, nil},
		{[]api.Matcher{match("job", api.MatchNre, ".+")}, []int{3}},
		{[]api.Matcher{match("job", api.MatchNre, "a|")}, []int{1, 2}},
		{[]api.Matcher{match("zone", api.MatchEq, "")}, all},
		{[]api.Matcher{match("zone", api.MatchEq, "x")}, nil},
		{[]api.Matcher{match("zone", api.MatchNe, "")}, nil},
		{[]api.Matcher{match("zone", api.MatchNe, "x")}, all},
		{[]api.Matcher{match("zone", api.MatchRe, "x")}, nil},
		{[]api.Matcher{match("zone", api.MatchRe, "x?")}, all},
		{[]api.Matcher{match("zone", api.MatchNre, "x")}, all},
		{[]api.Matcher{match("zone", api.MatchNre, "x?")}, nil},
		{[]api.Matcher{match("job", api.MatchNe, "a"), match("zone", api.MatchRe, "x?")}, []int{1, 2, 3}},
		{[]api.Matcher{match("job", api.MatchNe, "a"), match("job", api.MatchNe, "b")}, []int{3}},
		{[]api.Matcher{match("job", api.MatchNe, ""), match("job", api.MatchNre, "a")}, []int{1, 2}},
		{[]api.Matcher{match("job", api.MatchEq, "a"), match("job", api.MatchEq, "b")}, nil},
		{[]api.Matcher{match("job", api.MatchEq, "b"), match("job", api.MatchEq, "b")}, []int{1, 2}},
		{[]api.Matcher{match("job", api.MatchEq, "b"), match("__name__", api.MatchEq, "up")}, []int{2}},
		{[]api.Matcher{match("job", api.MatchEq, ""), match("__name__", api.MatchEq, "")}, []int{3}},
		{[]api.Matcher{match("job", api.MatchEq, ""), match("job", api.MatchNe, "")}, nil},
		{[]api.Matcher{match("__name__", api.MatchEq, ""), match("job", api.MatchRe, ".+"), match("job", api.MatchNe, "a")}, []int{1}},
	} {
		got, e := x.Find(c.ms)
		if e != 0 || !slices.Equal(got, c.want) {
			t.Errorf("Find(%+v) = %v, %d; want %v", c.ms, got, e, c.want)
		}
		checkFind(t, x, example(), c.ms)
	}
}

// P18.4: matchers that labels.Compile refuses, alone and among others: the first one's error, and no ids.
func TestFindRefuses(t *testing.T) {
	x := made(t, example())
	good := match("job", api.MatchEq, "a")
	nothing := match("job", api.MatchEq, "none")
	for _, c := range []struct {
		ms []api.Matcher
		e  api.Errno
	}{
		{[]api.Matcher{match("a", api.MatchRe, "(")}, api.ErrRxBrackets},
		{[]api.Matcher{match("a", api.MatchNre, "(")}, api.ErrRxBrackets},
		{[]api.Matcher{match("a", 0, "x")}, api.ErrKind},
		{[]api.Matcher{match("a", 5, "x")}, api.ErrKind},
		{[]api.Matcher{match("a", -1, "x")}, api.ErrKind},
		{[]api.Matcher{match("0x", api.MatchEq, "x")}, api.ErrLabels},
		{[]api.Matcher{match("", api.MatchNe, "x")}, api.ErrLabels},
		{[]api.Matcher{match("a:b", api.MatchRe, "x")}, api.ErrLabels},
		{[]api.Matcher{match("job", api.MatchEq, "\xff")}, api.ErrUTF},
		{[]api.Matcher{match("job", api.MatchRe, "\xff")}, api.ErrUTF},
		{[]api.Matcher{match("", 9, "\xff")}, api.ErrKind},
		{[]api.Matcher{match("", 3, "\xff(")}, api.ErrLabels},
		{[]api.Matcher{good, match("a", api.MatchRe, "(")}, api.ErrRxBrackets},
		{[]api.Matcher{match("a", api.MatchRe, "("), good}, api.ErrRxBrackets},
		{[]api.Matcher{nothing, match("a", api.MatchRe, "(")}, api.ErrRxBrackets},
		{[]api.Matcher{nothing, nothing, good, match("a", 7, "")}, api.ErrKind},
		{[]api.Matcher{match("job", api.MatchNe, "a"), match("a", 7, ""), match("a", api.MatchRe, "(")}, api.ErrKind},
		{[]api.Matcher{good, match("a", api.MatchRe, "("), match("a", 7, "")}, api.ErrRxBrackets},
		{[]api.Matcher{match("job", api.MatchEq, "\xff"), match("0x", api.MatchEq, "")}, api.ErrUTF},
	} {
		if got, e := x.Find(c.ms); e != c.e || len(got) != 0 {
			t.Errorf("Find(%+v) = %v, %d; want %d", c.ms, got, e, c.e)
		}
		checkFind(t, x, example(), c.ms)
	}
	for _, pattern := range wrongPatterns() {
		_, _, want := labels.Compile([]api.Matcher{match("job", api.MatchRe, pattern)})
		if got, e := x.Find([]api.Matcher{match("job", api.MatchRe, pattern)}); e != want || e == 0 || len(got) != 0 {
			t.Errorf("Find of the pattern %q = %v, %d; want %d", pattern, got, e, want)
		}
	}
}

// P18.4: every small matcher and every two of them over every small list of small sets.
func TestEverySmallFind(t *testing.T) {
	two := small(smallMatchers(), 2)
	for i, sets := range small(smallSets(), 3) {
		x := made(t, sets)
		for k, ms := range two {
			if len(ms) < 2 || len(sets) < 2 || (k+i)%23 == 0 {
				checkFind(t, x, sets, ms)
			}
		}
	}
	x := made(t, smallSets())
	for _, ms := range two {
		checkFind(t, x, smallSets(), ms)
	}
}

// P18.4: sets and matchers by chance, few and many.
func TestFindByChance(t *testing.T) {
	c := newChance(3)
	for range 1500 {
		sets := c.sets(10, false)
		x := made(t, sets)
		for range 12 {
			checkFind(t, x, sets, c.matchers(4, true))
		}
	}
	for range 40 {
		sets := c.sets(400, false)
		x := made(t, sets)
		for range 40 {
			checkFind(t, x, sets, c.matchers(3, false))
		}
	}
}

// P18.4: what an index finds by one matcher with = is what Ids tells, of "" too.
func TestFindIsIds(t *testing.T) {
	c := newChance(4)
	for range 300 {
		sets := c.sets(30, false)
		x := made(t, sets)
		for _, name := range goodNames() {
			for _, value := range append(goodValues(), "") {
				got, e := x.Find([]api.Matcher{match(name, api.MatchEq, value)})
				if want := x.Ids(name, value); e != 0 || !slices.Equal(got, want) {
					t.Fatalf("Find of %s=%q over %q = %v, %d; Ids %v", name, value, sets, got, e, want)
				}
			}
		}
	}
}

// found: what an index finds by matchers without a fault.
func found(t *testing.T, x *index.Index, ms ...api.Matcher) []int {
	t.Helper()
	ids, e := x.Find(ms)
	if e != 0 {
		t.Fatalf("Find(%+v): %d", ms, e)
	}
	return ids
}

// upTo: the numbers from 0 to below n.
func upTo(n int) []int {
	var list []int
	for i := range n {
		list = append(list, i)
	}
	return list
}

// P18.6: two lists of matchers together find what both of them find.
func TestFindTogether(t *testing.T) {
	c := newChance(5)
	for range 6000 {
		x := made(t, c.sets(25, false))
		ms, more := c.matchers(3, false), c.matchers(3, false)
		if got, want := found(t, x, append(slices.Clone(ms), more...)...), index.And(found(t, x, ms...), found(t, x, more...)); !slices.Equal(got, want) {
			t.Fatalf("%+v and %+v together find %v, not %v", ms, more, got, want)
		}
		if got := found(t, x, append(slices.Clone(ms), ms...)...); !slices.Equal(got, found(t, x, ms...)) {
			t.Fatalf("%+v twice finds %v", ms, got)
		}
	}
}

// checkOpposites: of = and !=, or =~ and !~, each set is found by one of the two.
func checkOpposites(t *testing.T, x *index.Index, name string, op int, value string) {
	t.Helper()
	yes, no := found(t, x, match(name, op, value)), found(t, x, match(name, op+1, value))
	if got := index.Or(yes, no); !slices.Equal(got, upTo(x.Len())) {
		t.Fatalf("operators %d and %d of %s and %q find %v and %v of %d", op, op+1, name, value, yes, no, x.Len())
	}
	if both := index.And(yes, no); len(both) != 0 || len(found(t, x, match(name, op, value), match(name, op+1, value))) != 0 {
		t.Fatalf("operators %d and %d of %s and %q both find %v", op, op+1, name, value, both)
	}
}

// P18.6: each matcher and its opposite.
func TestFindOpposites(t *testing.T) {
	c := newChance(6)
	lists := [][][]api.Label{nil, {nil}, {nil, nil}, example(), smallSets()}
	for range 60 {
		lists = append(lists, c.sets(40, false))
	}
	for _, sets := range lists {
		x := made(t, sets)
		for _, name := range append(goodNames(), "none") {
			for _, value := range append(goodValues(), "", "none") {
				checkOpposites(t, x, name, api.MatchEq, value)
			}
			for _, pattern := range patterns() {
				checkOpposites(t, x, name, api.MatchRe, pattern)
			}
		}
	}
}

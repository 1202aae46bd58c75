package rxprog_test

import (
	"slices"
	"testing"

	"weir/api"
	"weir/rxprog"
)

// P9.1: the chapter's examples, and each kind of node by itself.
func TestSizeExamples(t *testing.T) {
	for pattern, want := range map[string]int{
		"a|bc": 6, "(a)*?": 6, "a{1,3}": 6, "a{1000}": 1001, "(?:a{1000}){1000}": api.MaxInst + 1, "(?:a{1000}){0}": 1,
		"": 1, "a": 2, "é": 2, "[a-z]": 2, `[^\x{0}-\x{10ffff}]`: 2, "^": 2, "$": 2, "(?m)^": 2, "(?m)$": 2, `\b`: 2, `\B`: 2, "ab": 3, "|": 3, "||": 5, "a|": 4, "|a": 4, "a|b|c": 8, "()": 3, "(?P<n>a)": 4,
		"a*": 4, "a+": 5, "a?": 3, "a{2,}": 6, "a{2,5}": 9, "a{0}": 1, "a{0,0}?": 1, "(?:)*": 3, "(?:)+": 3, "(?:){1000}": 1, "(?:){0,1000}": 1001, "(?:){3,5}": 3,
	} {
		if got := rxprog.Size(tree(t, pattern)); got != want {
			t.Errorf("Size(%q) = %d, not %d", pattern, got, want)
		}
	}
}

// P9.1: 0 of a tree that isn't valid, even where its program would be small or hidden by a repeat of no times.
func TestSizeOfWrongTrees(t *testing.T) {
	for i, x := range wrongTrees() {
		for _, y := range []api.Rx{x, cat(lit('a'), x), rep(0, 0, x), alt(rep(0, -1, x), lit('a'))} {
			if got := rxprog.Size(y); got != 0 {
				t.Errorf("wrong tree %d: Size = %d", i, got)
			}
		}
	}
}

// P9.1: it is reckoned: products of repeats that nobody could count off, and such as come to nothing.
func TestSizeOfProducts(t *testing.T) {
	a, deep := lit('a'), api.MaxRxDepth
	for _, c := range []struct {
		x    api.Rx
		want int
	}{
		{nested(deep, a, func(x api.Rx) api.Rx { return rep(1000, 1000, x) }), api.MaxInst + 1},
		{nested(deep, a, func(x api.Rx) api.Rx { return rep(1000, -1, x) }), api.MaxInst + 1},
		{nested(deep, a, func(x api.Rx) api.Rx { return rep(0, 1000, x) }), api.MaxInst + 1},
		{nested(deep, a, func(x api.Rx) api.Rx { return lazy(7, 1000, x) }), api.MaxInst + 1},
		{nested(deep, empty(), func(x api.Rx) api.Rx { return rep(1000, 1000, x) }), 1},
		{nested(deep, empty(), func(x api.Rx) api.Rx { return rep(0, -1, x) }), 2*deep + 1},
		{nested(deep, empty(), func(x api.Rx) api.Rx { return rep(1, -1, x) }), api.MaxInst + 1},
		{nested(deep, a, func(x api.Rx) api.Rx { return rep(1, 1, x) }), 2},
		{rep(0, 0, nested(deep, a, func(x api.Rx) api.Rx { return rep(1000, 1000, x) })), 1},
		{cat(rep(0, 0, nested(deep-1, a, func(x api.Rx) api.Rx { return rep(1000, 1000, x) })), a, rep(1000, 1000, rep(0, 0, rep(1000, -1, a)))), 2},
		{cat(many(api.MaxRxNodes-1, a)...), api.MaxRxNodes},
		{alt(many(api.MaxRxNodes-1, a)...), api.MaxInst + 1},
		{cat(many(4000, rep(1000, 1000, a))...), api.MaxInst + 1},
		{cat(many(2000, rep(1000, 1000, rep(1000, 1000, a)))...), api.MaxInst + 1},
		{alt(rep(0, 0, alt(many(8000, a)...)), rep(1000, 1000, rep(0, 1, empty()))), 1003},
	} {
		if got := rxprog.Size(c.x); got != c.want {
			t.Errorf("Size = %d, not %d", got, c.want)
		}
	}
}

// A shape makes a tree of so many instructions, OpMatch counted.
type shape struct {
	name string
	make func(n int) api.Rx
}

// shapes: for sizes about MaxInst, each with another part that grows over the edge.
func shapes() []shape {
	a := lit('a')
	fill := func(n int, first ...api.Rx) api.Rx { // n in all, a thousand at a time
		row := slices.Clone(first)
		for _, x := range first {
			n -= int(countOf(x).Int64())
		}
		n--
		for ; n >= 1000; n -= 1000 {
			row = append(row, rep(1000, 1000, a))
		}
		return cat(append(row, many(n, a)...)...)
	}
	return []shape{
		{"runes", func(n int) api.Rx { return fill(n) }},
		{"the empty class", func(n int) api.Rx { return fill(n, rep(1000, 1000, class())) }},
		{"a part that may be left out", func(n int) api.Rx { return fill(n, rep(0, 1000, cat(a, a, a)), rep(3, 7, class('a', 'b'))) }},
		{"a loop about all", func(n int) api.Rx { return rep(0, -1, fill(n-2)) }},
		{"a lazy loop behind it once", func(n int) api.Rx { return lazy(1, -1, fill((n-3)/2+1, many(1, empty())...)) }},
		{"groups", func(n int) api.Rx { return group(1, "all", fill(n-2, group(2, "", a))) }},
		{"alternatives", func(n int) api.Rx { return alt(fill(n-5), empty(), a) }},
		{"alternatives within", func(n int) api.Rx {
			return fill(n, alt(many(500, a)...), alt(a, rep(2, 2, of(api.RxWord)), group(1, "", empty())))
		}},
		{"twice", func(n int) api.Rx { return rep(2, 2, fill((n-1)/2+1)) }},
		{"twice at most", func(n int) api.Rx { return rep(0, 2, fill((n-3)/2+1)) }},
		{"the limit left out", func(n int) api.Rx { return fill(n, rep(0, 0, fill(9*n))) }},
		{"places", func(n int) api.Rx {
			return fill(n, rep(1000, 1000, of(api.RxBegin)), rep(1000, 1000, of(api.RxNotWord)))
		}},
	}
}

// P9.1 and P9.2: a size of MaxInst and below is told and compiled, one above is told and refused.
func TestSizeLimit(t *testing.T) {
	t.Parallel()
	for _, s := range shapes() {
		met := map[int]int{}
		for n := api.MaxInst - 4; n < api.MaxInst+6; n++ {
			x := s.make(n)
			want := sizeByWords(x)
			if got := rxprog.Size(x); got != want {
				t.Errorf("%s: Size = %d, not %d", s.name, got, want)
			}
			p, e := rxprog.Compile(x)
			if want > api.MaxInst && (e != api.ErrBig || len(p.Insts) != 0) || want <= api.MaxInst && (e != api.OK || len(p.Insts) != want) {
				t.Errorf("%s of %d: %d, %d instructions", s.name, want, e, len(p.Insts))
			}
			met[want]++
		}
		if met[api.MaxInst]+met[api.MaxInst-1] == 0 || met[api.MaxInst+1] == 0 {
			t.Errorf("%s: sizes %v", s.name, met)
		}
	}
}

// P9.1: Size by a reckoning without bounds, of small trees and of trees made at random, with great repeats and small ones.
func TestSizeByWords(t *testing.T) {
	t.Parallel()
	all := smallTrees()
	r := someRand()
	for i := range 20000 {
		bounds := []int{0, 1, 2, 3}
		if i%2 == 0 {
			bounds = []int{0, 0, 1, 2, 7, 30, 999, 1000}
		}
		all = append(all, someTree(r, 1+i%5, bounds))
	}
	below, above := 0, 0
	for _, x := range all {
		want := sizeByWords(x)
		if got := rxprog.Size(x); got != want {
			t.Fatalf("Size of %s = %d, not %d", told(x), got, want)
		}
		if want > api.MaxInst {
			above++
		} else if want > 1000 {
			below++
		}
	}
	if below < 100 || above < 100 {
		t.Errorf("%d trees are great, %d too great", below, above)
	}
}

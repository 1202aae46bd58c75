package rxprog_test

import (
	"math"
	"math/rand/v2"
	"slices"
	"strconv"
	"strings"
	"testing"

	"weir/api"
	"weir/rxprog"
	"weir/rxtree"
)

const runesEnd = 0x10FFFF

// someRand: always the same numbers in no order.
func someRand() *rand.Rand { return rand.New(rand.NewPCG(9, 1)) }

// Trees, written short.

func of(kind int) api.Rx { return api.Rx{Kind: kind} }

func empty() api.Rx { return of(api.RxEmpty) }

func lit(r rune) api.Rx { return api.Rx{Kind: api.RxLit, R: r} }

// class: the ranges whose ends the numbers are, two by two.
func class(ends ...rune) api.Rx {
	x := of(api.RxClass)
	for i := 0; i < len(ends); i += 2 {
		x.Ranges = append(x.Ranges, api.RuneRange{Lo: ends[i], Hi: ends[i+1]})
	}
	return x
}

func cat(kids ...api.Rx) api.Rx { return api.Rx{Kind: api.RxCat, Kids: kids} }

func alt(kids ...api.Rx) api.Rx { return api.Rx{Kind: api.RxAlt, Kids: kids} }

func rep(least, most int, kid api.Rx) api.Rx {
	return api.Rx{Kind: api.RxRepeat, Min: least, Max: most, Kids: []api.Rx{kid}}
}

func lazy(least, most int, kid api.Rx) api.Rx {
	x := rep(least, most, kid)
	x.Lazy = true
	return x
}

func group(number int, name string, kid api.Rx) api.Rx {
	return api.Rx{Kind: api.RxGroup, Cap: number, Name: name, Kids: []api.Rx{kid}}
}

// many: so many of the same.
func many(n int, x api.Rx) []api.Rx { return slices.Repeat([]api.Rx{x}, n) }

// nested: a node with so many more about it.
func nested(n int, x api.Rx, wrap func(api.Rx) api.Rx) api.Rx {
	for range n {
		x = wrap(x)
	}
	return x
}

// clone: the same tree in memory of its own.
func clone(x api.Rx) api.Rx {
	x.Ranges = slices.Clone(x.Ranges)
	x.Kids = slices.Clone(x.Kids)
	for i := range x.Kids {
		x.Kids[i] = clone(x.Kids[i])
	}
	return x
}

// tree: that of a pattern.
func tree(t *testing.T, pattern string) api.Rx {
	t.Helper()
	x, e := rxtree.Parse(pattern)
	if e != api.OK {
		t.Fatalf("Parse(%q): %d", pattern, e)
	}
	return x
}

// told: a tree as a text, for those who read a failure.
func told(x api.Rx) string {
	if s, e := rxtree.Show(x); e == api.OK {
		return "`" + s + "`"
	}
	return "a tree that Show doesn't tell"
}

// compiled: the program of a tree that has one.
func compiled(t *testing.T, x api.Rx) api.Prog {
	t.Helper()
	p, e := rxprog.Compile(x)
	if e != api.OK {
		t.Fatalf("Compile of %s: %d", told(x), e)
	}
	return p
}

// places: the kinds that ask for a place.
func places() []api.Rx {
	return []api.Rx{of(api.RxBegin), of(api.RxEnd), of(api.RxLineBegin), of(api.RxLineEnd), of(api.RxWord), of(api.RxNotWord)}
}

// leaves: nodes without kids of each kind; of the runes some have one byte, some more.
func leaves() []api.Rx {
	return append(places(), empty(), lit('a'), lit('b'), lit('é'), lit('\n'), lit('_'), lit(0xD800), lit(0xDFFF), lit('😀'), lit(0), lit(runesEnd),
		class(), class('a', 'b'), class('a', 'a', 'é', 'é'), class(0, 9, 11, runesEnd), class(0, runesEnd), class(0xD800, 0xDFFF), class(0xD7FF, 0xE000), class('0', '9', 'A', 'Z', '_', '_', 'a', 'z'))
}

// numbered: the same tree, its groups numbered as they have to be, and their names, where they have one, all different.
func numbered(x api.Rx) api.Rx {
	groups := 0
	return renumbered(clone(x), &groups)
}

func renumbered(x api.Rx, groups *int) api.Rx {
	if x.Kind == api.RxGroup {
		*groups++
		x.Cap = *groups
		if x.Name != "" {
			x.Name = "n" + strconv.Itoa(*groups)
		}
	}
	for i := range x.Kids {
		x.Kids[i] = renumbered(x.Kids[i], groups)
	}
	return x
}

// about: every node with kids out of these, at most two of them.
func about(kids []api.Rx) []api.Rx {
	var out []api.Rx
	for _, k := range kids {
		out = append(out, group(1, "", k), group(1, "n", k), alt(k, k, k), cat(k, k, k))
		for _, times := range [][2]int{{0, -1}, {1, -1}, {2, -1}, {0, 0}, {0, 1}, {1, 1}, {2, 2}, {0, 3}, {1, 3}} {
			out = append(out, rep(times[0], times[1], k), lazy(times[0], times[1], k))
		}
		for _, l := range kids {
			out = append(out, cat(k, l), alt(k, l))
		}
	}
	for i := range out {
		out[i] = numbered(out[i])
	}
	return out
}

// smallTrees: all trees of two levels, and some of three.
func smallTrees() []api.Rx {
	inner := []api.Rx{empty(), lit('a'), lit('é'), class(), class('a', 'b'), of(api.RxWord), of(api.RxLineEnd), rep(0, -1, lit('a')), lazy(0, 1, lit('b')), rep(1, 2, class('a', 'b')), cat(lit('a'), lit('b')), alt(lit('a'), empty()), alt(lit('a'), cat(lit('a'), lit('é'))), group(1, "", lit('a')), rep(0, 0, lit('b')), rep(2, 2, empty())}
	return slices.Concat(leaves(), about(leaves()), about(inner))
}

var allLeaves = leaves()

// someTree: a valid tree, at most so deep, whose repeats have one of these bounds.
func someTree(r *rand.Rand, deep int, bounds []int) api.Rx {
	return numbered(anyTree(r, deep, bounds))
}

func anyTree(r *rand.Rand, deep int, bounds []int) api.Rx {
	if deep == 0 || r.IntN(5) == 0 {
		if r.IntN(2) == 0 {
			return lit([]rune{'a', 'a', 'b', 'é', '_', '\n'}[r.IntN(6)])
		}
		return allLeaves[r.IntN(len(allLeaves))]
	}
	switch r.IntN(4) {
	case 0:
		return group(0, strings.Repeat("n", r.IntN(2)), anyTree(r, deep-1, bounds))
	case 1:
		least := bounds[r.IntN(len(bounds))]
		most := max(least, bounds[r.IntN(len(bounds))])
		if r.IntN(3) == 0 {
			most = -1
		}
		x := rep(least, most, anyTree(r, deep-1, bounds))
		x.Lazy = r.IntN(2) == 0
		return x
	}
	var kids []api.Rx
	for range 2 + r.IntN(3) {
		kids = append(kids, anyTree(r, deep-1, bounds))
	}
	if r.IntN(2) == 0 {
		return cat(kids...)
	}
	return alt(kids...)
}

// wrongTrees: trees that aren't valid, each for one of chapter 8's reasons.
func wrongTrees() []api.Rx {
	a := lit('a')
	out := []api.Rx{
		{}, of(-1), of(14), of(math.MinInt), of(math.MaxInt),
		lit(-1), lit(runesEnd + 1), lit(math.MinInt32), lit(math.MaxInt32),
		class('a', 'a'), class('b', 'a'), class('a', 'b', 'c', 'd'), class('a', 'c', 'b', 'd'), class('c', 'd', 'a', 'b'), class(-1, 3), class(3, runesEnd+1), class(0, math.MaxInt32, math.MinInt32, 0),
		cat(), cat(a), alt(), alt(a), cat(a, of(0)), alt(of(99), a),
		{Kind: api.RxRepeat}, {Kind: api.RxRepeat, Max: 1, Kids: many(2, a)}, rep(-1, 1, a), rep(1001, -1, a), rep(1001, 1001, a), rep(2, 1, a), rep(0, 1001, a), rep(0, -2, a), rep(1, 0, a), rep(0, math.MinInt, a), rep(math.MaxInt, math.MaxInt, a), rep(math.MinInt, -1, a), rep(0, 0, of(0)), rep(0, 0, cat(a)),
		{Kind: api.RxGroup, Cap: 1}, {Kind: api.RxGroup, Cap: 1, Kids: many(2, a)}, group(1, "é", a), group(1, "x-", a), group(0, "", a), group(2, "", a), group(-1, "", a), group(1, "\xff", a),
		cat(group(1, "", a), group(1, "", a)), cat(group(2, "", a), group(1, "", a)), cat(group(1, "x", a), group(2, "x", a)), rep(0, 0, group(2, "", a)),
		{Kind: api.RxEmpty, R: 'a'}, {Kind: api.RxEmpty, Kids: many(1, a)}, {Kind: api.RxLit, R: 'a', Kids: many(1, a)}, {Kind: api.RxLit, R: 'a', Ranges: class('a', 'b').Ranges}, {Kind: api.RxClass, R: 'a'}, {Kind: api.RxWord, Lazy: true}, {Kind: api.RxBegin, Min: 1}, {Kind: api.RxEnd, Kids: many(1, a)},
		{Kind: api.RxCat, Lazy: true, Kids: many(2, a)}, {Kind: api.RxAlt, Name: "x", Kids: many(2, a)}, {Kind: api.RxAlt, Cap: 1, Kids: many(2, a)}, {Kind: api.RxCat, Max: -1, Kids: many(2, a)}, {Kind: api.RxGroup, Cap: 1, Max: 1, Kids: many(1, a)},
		cat(many(api.MaxRxNodes, a)...), alt(many(api.MaxRxNodes, empty())...),
		nested(api.MaxRxDepth+2, a, func(x api.Rx) api.Rx { return rep(0, 1, x) }), nested(api.MaxRxDepth+1, cat(a, a), func(x api.Rx) api.Rx { return cat(a, x) }),
	}
	var groups []api.Rx
	for i := range api.MaxRxGroups + 1 {
		groups = append(groups, group(i+1, "", a))
	}
	return append(out, cat(groups...))
}

// hostileTrees: trees that hold themselves, share their parts again and again, or are deep or wide beyond measure; none is valid.
func hostileTrees() []api.Rx {
	var out []api.Rx
	for _, x := range []api.Rx{cat(empty(), empty()), alt(lit('a'), lit('b')), rep(0, -1, empty()), rep(0, 0, empty()), group(1, "", empty())} {
		ring := clone(x)
		ring.Kids[len(ring.Kids)-1] = ring
		out = append(out, ring)
	}
	both := cat(empty(), empty())
	both.Kids[0], both.Kids[1] = both, both
	out = append(out, both, cat(many(1<<20, lit('a'))...))
	for _, wrap := range []func(api.Rx) api.Rx{
		func(x api.Rx) api.Rx { return rep(0, 0, x) },
		func(x api.Rx) api.Rx { return rep(1, 1, x) },
		func(x api.Rx) api.Rx { return group(1, "", x) },
		func(x api.Rx) api.Rx { return cat(x, x) },
		func(x api.Rx) api.Rx { return alt(x, cat(x, x)) },
		func(x api.Rx) api.Rx { return api.Rx{Kids: many(1, x)} },
	} {
		out = append(out, nested(1<<16, lit('a'), wrap))
	}
	return out
}

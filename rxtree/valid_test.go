package rxtree_test

import (
	"math"
	"strconv"
	"strings"
	"testing"

	"weir/api"
	"weir/rxtree"
)

// checkWrong: a node that isn't valid isn't, wherever it stands.
func checkWrong(t *testing.T, x api.Rx) {
	t.Helper()
	if validByWords(x) {
		t.Fatalf("%v is valid by the words", x)
	}
	checkTree(t, x, false)
	for _, y := range []api.Rx{cat(x, lit('a')), cat(lit('a'), x), alt(lit('a'), x, lit('b')), rep(0, -1, x), lazy(1, 2, cat(lit('a'), rep(0, 1, x)))} {
		if rxtree.Valid(y) {
			t.Fatalf("Valid(%v)", y)
		}
	}
}

// spoiled: a node with each of its fields changed alone.
func spoiled(x api.Rx) []api.Rx {
	var out []api.Rx
	put := func(change func(y *api.Rx)) {
		y := clone(x)
		change(&y)
		out = append(out, y)
	}
	for _, r := range []rune{1, 'a', -1, 0xD800, maxRune, maxRune + 1, math.MinInt32, math.MaxInt32, 0} {
		put(func(y *api.Rx) { y.R = r })
	}
	for _, n := range []int{1, -1, -2, 2, 999, 1000, 1001, math.MinInt, math.MaxInt, 0, 1 << 32, -1 << 32} {
		put(func(y *api.Rx) { y.Min = n })
		put(func(y *api.Rx) { y.Max = n })
		put(func(y *api.Rx) { y.Cap = n })
		put(func(y *api.Rx) { y.Min, y.Max = n, n })
		put(func(y *api.Rx) { y.Kind = n })
	}
	for kind := range 16 {
		put(func(y *api.Rx) { y.Kind = kind })
	}
	put(func(y *api.Rx) { y.Lazy = !y.Lazy })
	for _, name := range []string{"x", "", " ", "x y", "é", "\xff", "a-b", "Az_09", "a\x00", ":", "/", "@", "[", "`", "{", "x\xff"} {
		put(func(y *api.Rx) { y.Name = name })
	}
	for _, kids := range [][]api.Rx{nil, {}, {lit('a')}, {lit('a'), lit('b')}, {lit('a'), lit('b'), lit('c')}, {{}}, {{}, {}}, {lit('a'), {}}, {{}, lit('a')}} {
		put(func(y *api.Rx) { y.Kids = kids })
	}
	for _, ends := range [][]rune{
		nil, {'a', 'b'}, {'a', 'a'}, {'b', 'a'}, {'a', 'a', 'b', 'b'}, {'a', 'a', 'c', 'c'}, {'c', 'c', 'a', 'a'}, {'a', 'c', 'c', 'd'}, {'a', 'c', 'b', 'd'}, {'a', 'c', 'a', 'c'}, {'a', 'c', 'd', 'f'}, {'a', 'c', 'e', 'g'}, {'a', 'z', 'b', 'c'},
		{-1, 5}, {-5, -1}, {0, maxRune}, {0, maxRune + 1}, {maxRune, maxRune + 1}, {maxRune + 1, maxRune + 2}, {0, 0}, {maxRune, maxRune}, {0, 0, maxRune, maxRune}, {0, 0, 2, 2}, {0, 1}, {math.MinInt32, math.MaxInt32}, {0, math.MaxInt32}, {0, math.MaxInt32, math.MinInt32, 0}, {5, math.MinInt32}, {0xD800, 0xDFFF}, {0xD7FF, 0xD7FF, 0xE000, 0xE000},
		{'a', 'a', 'c', 'b'}, {'a', 'b', 'd', 'e', 'g', 'h'}, {'a', 'b', 'd', 'e', 'f', 'h'}, {'a', 'b', 'd', 'e', 'd', 'h'},
	} {
		put(func(y *api.Rx) { y.Ranges = class(ends...).Ranges })
	}
	put(func(y *api.Rx) { y.Ranges = []api.RuneRange{} })
	return out
}

// P8.2: each field of each kind, right and wrong, alone in the tree and below another node.
func TestFields(t *testing.T) {
	a := lit('a')
	for _, x := range []api.Rx{
		empty(), a, lit(0), class('a', 'b'), class(), cat(a, lit('b')), alt(a, lit('b')), rep(0, 1, a), rep(2, -1, a), lazy(3, 5, a), group(1, "", a), group(1, "x", a),
		of(api.RxBegin), of(api.RxEnd), of(api.RxLineBegin), of(api.RxLineEnd), of(api.RxWord), of(api.RxNotWord), {},
	} {
		good, bad := 0, 0
		for _, y := range spoiled(x) {
			if validByWords(y) {
				good++
				checkTree(t, y, true)
				checkTree(t, cat(lit('x'), y), true)
			} else {
				bad++
				checkWrong(t, y)
			}
		}
		if good == 0 || bad < 20 {
			t.Errorf("%v: %d are valid, %d aren't", x, good, bad)
		}
	}
}

// P8.2: the reasons that the chapter lists, one by one.
func TestNotValid(t *testing.T) {
	a := lit('a')
	for _, x := range []api.Rx{
		{}, of(-1), of(14), of(math.MinInt), of(math.MaxInt),
		lit(-1), lit(maxRune + 1),
		class('a', 'a'), class('b', 'a'), class('a', 'b', 'c', 'd'), class('c', 'd', 'a', 'b'), class(-1, 3), class(3, maxRune+1),
		cat(), cat(a), alt(), alt(a),
		{Kind: api.RxRepeat}, {Kind: api.RxRepeat, Max: 1, Kids: []api.Rx{a, a}}, rep(-1, 1, a), rep(1001, -1, a), rep(1001, 1001, a), rep(2, 1, a), rep(0, 1001, a), rep(0, -2, a), rep(1, 0, a),
		{Kind: api.RxGroup, Cap: 1}, {Kind: api.RxGroup, Cap: 1, Kids: []api.Rx{a, a}}, group(1, "é", a), group(1, "x-", a), group(0, "", a), group(2, "", a), group(-1, "", a),
		{Kind: api.RxEmpty, R: 'a'}, {Kind: api.RxEmpty, Kids: []api.Rx{a}}, {Kind: api.RxLit, R: 'a', Kids: []api.Rx{a}}, {Kind: api.RxLit, R: 'a', Ranges: class('a', 'b').Ranges}, {Kind: api.RxClass, R: 'a'}, {Kind: api.RxWord, Lazy: true},
		{Kind: api.RxCat, Lazy: true, Kids: []api.Rx{a, a}}, {Kind: api.RxAlt, Name: "x", Kids: []api.Rx{a, a}}, {Kind: api.RxAlt, Cap: 1, Kids: []api.Rx{a, a}}, {Kind: api.RxCat, Min: 1, Kids: []api.Rx{a, a}}, {Kind: api.RxCat, Max: -1, Kids: []api.Rx{a, a}}, {Kind: api.RxGroup, Cap: 1, Max: 1, Kids: []api.Rx{a}},
	} {
		checkWrong(t, x)
	}
	for _, x := range []api.Rx{rep(0, 0, a), rep(1000, 1000, a), rep(1000, -1, a), rep(0, 1000, a), rep(0, -1, a), lit(0), lit(maxRune), lit(0xD800), class(), class('a', 'a', 'c', 'c'), group(1, "_", a)} {
		checkTree(t, x, true)
	}
}

// P8.2: groups' numbers go by their order, and their names are all different.
func TestGroupsOfTrees(t *testing.T) {
	g := func(n int, name string) api.Rx { return group(n, name, lit('a')) }
	for _, x := range []api.Rx{
		cat(g(1, ""), g(2, "")), alt(g(1, "x"), g(2, "y"), g(3, "")), group(1, "", cat(g(2, ""), g(3, ""))), cat(group(1, "", g(2, "")), g(3, "")), cat(rep(0, 0, g(1, "")), g(2, "")), cat(g(1, ""), lit('a'), group(2, "x", alt(g(3, "X"), rep(0, -1, g(4, ""))))),
	} {
		checkTree(t, x, true)
	}
	for _, x := range []api.Rx{
		cat(g(1, ""), g(1, "")), cat(g(2, ""), g(1, "")), cat(g(1, ""), g(3, "")), cat(g(0, ""), g(1, "")), group(2, "", g(1, "")), cat(group(1, "", g(3, "")), g(2, "")), group(1, "", g(1, "")), cat(g(1, ""), g(2, ""), g(4, "")),
		cat(g(1, "x"), g(2, "x")), group(1, "x", g(2, "x")), alt(g(1, "x"), g(2, ""), g(3, "y"), g(4, "x")), cat(g(1, ""), g(2, "y"), rep(0, 1, g(3, "y"))),
	} {
		checkWrong(t, x)
	}
	if names := rxtree.Groups(cat(g(1, ""), g(2, "b"), g(3, "a"))); strings.Join(names, ",") != ",b,a" {
		t.Errorf("Groups = %q", names)
	}
	for n := api.MaxRxGroups - 2; n < api.MaxRxGroups+3; n++ {
		for _, name := range []string{"", "n"} {
			var kids []api.Rx
			for i := range n {
				k := g(i+1, "")
				if name != "" {
					k.Name = name + strconv.Itoa(i)
				}
				kids = append(kids, k)
			}
			checkTree(t, cat(kids...), n <= api.MaxRxGroups)
		}
		x := empty()
		for i := n; i > 0; i-- {
			x = group(i, "", x)
		}
		checkTree(t, x, n <= api.MaxRxGroups)
	}
}

// P8.2: MaxRxNodes nodes are taken, one more isn't, whatever the tree's shape.
func TestNodesLimit(t *testing.T) {
	t.Parallel()
	shapes := map[string]func(n int) api.Rx{
		"a row":        func(n int) api.Rx { return cat(slicesOf(n-1, lit('a'))...) },
		"alternatives": func(n int) api.Rx { return alt(slicesOf(n-1, empty())...) },
		"repeats": func(n int) api.Rx {
			return cat(append(slicesOf((n-2)/2, rep(0, -1, lit('a'))), slicesOf(1+n%2, lit('b'))...)...)
		},
		"a row of rows": func(n int) api.Rx {
			return cat(append(slicesOf(100, cat(slicesOf(10, class('a', 'b'))...)), slicesOf(n-1101, of(api.RxWord))...)...)
		},
	}
	for name, shape := range shapes {
		for n := api.MaxRxNodes - 3; n < api.MaxRxNodes+4; n++ {
			x := shape(n)
			if len(nodes(x)) != n {
				t.Fatalf("%s: %d nodes, not %d", name, len(nodes(x)), n)
			}
			checkTree(t, x, n <= api.MaxRxNodes)
		}
	}
}

// P8.2: a node inside of MaxRxDepth brackets is taken, inside of one more it isn't; what Show writes no brackets about counts for nothing.
func TestDepthLimit(t *testing.T) {
	t.Parallel()
	a := lit('a')
	nests := map[string]struct {
		wrap  func(x api.Rx) api.Rx
		first api.Rx
	}{
		"rows in rows":           {func(x api.Rx) api.Rx { return cat(a, x) }, cat(a, a)},
		"rows about nothing":     {func(x api.Rx) api.Rx { return cat(x, a) }, empty()},
		"rows in repeats":        {func(x api.Rx) api.Rx { return cat(a, rep(2, 2, cat(a, x))) }, cat(a, a)},
		"rows of repeats":        {func(x api.Rx) api.Rx { return cat(a, rep(0, -1, x)) }, a},
		"rows in alternatives":   {func(x api.Rx) api.Rx { return alt(a, cat(a, x)) }, alt(a, a)},
		"alternatives":           {func(x api.Rx) api.Rx { return alt(x, a) }, alt(a, a)},
		"alternatives, nothing":  {func(x api.Rx) api.Rx { return alt(x, a) }, empty()},
		"alternatives, repeated": {func(x api.Rx) api.Rx { return rep(0, 1, alt(x, a)) }, empty()},
		"repeats":                {func(x api.Rx) api.Rx { return rep(0, -1, x) }, rep(0, -1, a)},
		"repeats of a rune":      {func(x api.Rx) api.Rx { return rep(0, -1, x) }, a},
		"repeats about nothing":  {func(x api.Rx) api.Rx { return lazy(0, 1, x) }, empty()},
	}
	for name, nest := range nests {
		x := nest.first
		at := map[int]int{} // how many trees of so many brackets were asked
		for depth := 0; depth < api.MaxRxDepth+3; {
			x = nest.wrap(x)
			depth = depthOf(textByWords(x))
			if depth > api.MaxRxDepth-5 {
				checkTree(t, x, depth <= api.MaxRxDepth)
				at[depth]++
			}
		}
		if at[api.MaxRxDepth]+at[api.MaxRxDepth-1] == 0 || at[api.MaxRxDepth+1]+at[api.MaxRxDepth+2] == 0 {
			t.Errorf("%s: %v", name, at)
		}
	}
	x := a
	for range api.MaxRxDepth + 1 {
		x = rep(0, -1, x)
	}
	if !rxtree.Valid(x) || rxtree.Valid(rep(0, -1, x)) {
		t.Errorf("repeats in repeats: %v, %v", rxtree.Valid(x), rxtree.Valid(rep(0, -1, x)))
	}
}

// P8.2: the brackets of groups are brackets too, and those that Show writes about a node count for the node.
func TestDepthOfGroups(t *testing.T) {
	t.Parallel()
	deep := func(n int) api.Rx {
		x := lit('a')
		for range n {
			x = rep(0, -1, x)
		}
		return x // n - 1 brackets
	}
	for n := api.MaxRxDepth - 105; n < api.MaxRxDepth+5; n++ {
		for _, groups := range []int{0, 1, 2, 50, 99, 100} {
			x := deep(n)
			for i := groups; i > 0; i-- {
				x = group(i, "", x)
			}
			checkTree(t, x, n-1+groups <= api.MaxRxDepth)
			checkTree(t, cat(lit('b'), x), n-1+groups <= api.MaxRxDepth)
			checkTree(t, alt(x, lit('b')), n-1+groups <= api.MaxRxDepth)
		}
		inner := lit('a')
		inner = group(1, "", inner)
		for range n {
			inner = rep(0, -1, inner)
		}
		checkTree(t, inner, n-1+1 <= api.MaxRxDepth)
		line := of(api.RxLineBegin)
		for range n {
			line = rep(0, -1, line)
		}
		checkTree(t, line, n-1 <= api.MaxRxDepth) // its `(?m)` is no bracket
	}
}

// P8.2: Valid over trees made at random and spoiled somewhere.
func TestManySpoiledTrees(t *testing.T) {
	t.Parallel()
	r := someRand()
	spoiledOnes := 0
	for range 8000 {
		x := someTree(r, 4)
		all := pointers(&x)
		p := all[r.IntN(len(all))]
		list := spoiled(*p)
		*p = list[r.IntN(len(list))]
		valid := validByWords(x)
		if !valid {
			spoiledOnes++
		}
		checkTree(t, x, valid)
	}
	if spoiledOnes < 4000 || spoiledOnes > 7900 {
		t.Errorf("%d trees aren't valid", spoiledOnes)
	}
}

// pointers: to each node of a tree.
func pointers(x *api.Rx) []*api.Rx {
	out := []*api.Rx{x}
	for i := range x.Kids {
		out = append(out, pointers(&x.Kids[i])...)
	}
	return out
}

package rx_test

import (
	"math/rand/v2"
	"slices"
	"strconv"
	"strings"
	"testing"

	"weir/api"
	"weir/rx"
	"weir/rxprog"
	"weir/rxtree"
)

const runesEnd = 0x10FFFF

// someRand: always the same numbers in no order.
func someRand() *rand.Rand { return rand.New(rand.NewPCG(10, 1)) }

// Trees, written short.

func of(kind int) api.Rx { return api.Rx{Kind: kind} }

func empty() api.Rx { return of(api.RxEmpty) }

func lit(r rune) api.Rx { return api.Rx{Kind: api.RxLit, R: r} }

// ranges: those whose ends the numbers are, two by two.
func ranges(ends ...rune) []api.RuneRange {
	var out []api.RuneRange
	for i := 0; i < len(ends); i += 2 {
		out = append(out, api.RuneRange{Lo: ends[i], Hi: ends[i+1]})
	}
	return out
}

func class(ends ...rune) api.Rx { return api.Rx{Kind: api.RxClass, Ranges: ranges(ends...)} }

func cat(kids ...api.Rx) api.Rx { return api.Rx{Kind: api.RxCat, Kids: kids} }

func alt(kids ...api.Rx) api.Rx { return api.Rx{Kind: api.RxAlt, Kids: kids} }

func rep(least, most int, kid api.Rx) api.Rx {
	return api.Rx{Kind: api.RxRepeat, Min: least, Max: most, Kids: []api.Rx{kid}}
}

func lazy(least, most int, kid api.Rx) api.Rx {
	x := rep(least, most, kid)
	x.Lazy = true
	return x
}

func group(number int, name string, kid api.Rx) api.Rx {
	return api.Rx{Kind: api.RxGroup, Cap: number, Name: name, Kids: []api.Rx{kid}}
}

// places: the kinds that ask for a place.
func places() []api.Rx {
	return []api.Rx{of(api.RxBegin), of(api.RxEnd), of(api.RxLineBegin), of(api.RxLineEnd), of(api.RxWord), of(api.RxNotWord)}
}

// leaves: nodes without kids of each kind; of the runes some have one byte, some more.
func leaves() []api.Rx {
	return append(places(), empty(), lit('a'), lit('b'), lit('é'), lit('\n'), lit('_'), lit(0xD800), lit(0xFFFD), lit('😀'), lit(0), lit(runesEnd),
		class(), class('a', 'b'), class('a', 'a', 'é', 'é'), class(0, 9, 11, runesEnd), class(0, runesEnd), class(0xD800, 0xDFFF), class(0xD7FF, 0xE000), class('0', '9', 'A', 'Z', '_', '_', 'a', 'z'))
}

// numbered: the same tree in memory of its own, its groups numbered as they have to be, and their names, where they have one, all different.
func numbered(x api.Rx) api.Rx {
	groups := 0
	return renumbered(x, &groups)
}

func renumbered(x api.Rx, groups *int) api.Rx {
	if x.Kind == api.RxGroup {
		*groups++
		x.Cap = *groups
		if x.Name != "" {
			x.Name = "n" + strconv.Itoa(*groups)
		}
	}
	x.Kids = slices.Clone(x.Kids)
	for i := range x.Kids {
		x.Kids[i] = renumbered(x.Kids[i], groups)
	}
	return x
}

// about: every node with kids out of these, at most two of them.
func about(kids []api.Rx) []api.Rx {
	var out []api.Rx
	for _, k := range kids {
		out = append(out, group(1, "", k), group(1, "n", k), alt(k, k, k), cat(k, k, k))
		for _, times := range [][2]int{{0, -1}, {1, -1}, {2, -1}, {0, 0}, {0, 1}, {1, 1}, {2, 2}, {0, 3}, {1, 3}} {
			out = append(out, rep(times[0], times[1], k), lazy(times[0], times[1], k))
		}
		for _, l := range kids {
			out = append(out, cat(k, l), alt(k, l))
		}
	}
	for i := range out {
		out[i] = numbered(out[i])
	}
	return out
}

// smallTrees: all trees of two levels, and some of three.
func smallTrees() []api.Rx {
	inner := []api.Rx{empty(), lit('a'), lit('é'), class(), class('a', 'b'), of(api.RxWord), of(api.RxLineEnd), rep(0, -1, lit('a')), lazy(0, 1, lit('b')), rep(1, 2, class('a', 'b')), cat(lit('a'), lit('b')), alt(lit('a'), empty()), alt(empty(), lit('a')), alt(lit('a'), cat(lit('a'), lit('é'))), group(1, "", lit('a')), group(1, "", rep(0, -1, lit('a'))), rep(0, 0, lit('b')), rep(2, 2, empty())}
	return slices.Concat(leaves(), about(leaves()), about(inner))
}

var allLeaves = leaves()

// someTree: a valid tree, at most so deep, with as many groups as there is room for.
func someTree(r *rand.Rand, deep int) api.Rx { return numbered(anyTree(r, deep)) }

func anyTree(r *rand.Rand, deep int) api.Rx {
	if deep == 0 || r.IntN(5) == 0 {
		if r.IntN(3) > 0 {
			return lit([]rune{'a', 'a', 'b', 'é', '_', '\n'}[r.IntN(6)])
		}
		return allLeaves[r.IntN(len(allLeaves))]
	}
	switch r.IntN(5) {
	case 0, 1:
		return group(0, strings.Repeat("n", r.IntN(2)), anyTree(r, deep-1))
	case 2:
		least := r.IntN(3)
		most := least + r.IntN(3)
		if r.IntN(2) == 0 {
			most = -1
		}
		x := rep(least, most, anyTree(r, deep-1))
		x.Lazy = r.IntN(2) == 0
		return x
	}
	var kids []api.Rx
	for range 2 + r.IntN(2) {
		kids = append(kids, anyTree(r, deep-1))
	}
	if r.IntN(2) == 0 {
		return cat(kids...)
	}
	return alt(kids...)
}

// textsOver: all texts of these runes up to so many of them.
func textsOver(runes string, most int) []string {
	out := []string{""}
	for from := 0; most > 0; most-- {
		to := len(out)
		for _, s := range out[from:to] {
			for _, r := range runes {
				out = append(out, s+string(r))
			}
		}
		from = to
	}
	return out
}

// told: a tree as a text, for those who read a failure.
func told(x api.Rx) string {
	if s, e := rxtree.Show(x); e == api.OK {
		return "`" + s + "`"
	}
	return "a tree that Show doesn't tell"
}

// program: that of a tree which has one.
func program(t *testing.T, x api.Rx) api.Prog {
	t.Helper()
	p, e := rxprog.Compile(x)
	if e != api.OK {
		t.Fatalf("Compile of %s: %d", told(x), e)
	}
	return p
}

// programOf: that of a pattern.
func programOf(t *testing.T, pattern string) api.Prog {
	t.Helper()
	x, e := rxtree.Parse(pattern)
	if e != api.OK {
		t.Fatalf("Parse(%q): %d", pattern, e)
	}
	return program(t, x)
}

// compiled: a pattern that is taken.
func compiled(t *testing.T, pattern string) *rx.Regex {
	t.Helper()
	r, e := rx.Compile(pattern)
	if e != api.OK || r == nil {
		t.Fatalf("Compile(%.100q): %d", pattern, e)
	}
	return r
}

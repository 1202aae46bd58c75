package rxtree_test

import (
	"math/rand/v2"
	"strconv"
	"strings"

	"weir/api"
)

// leaves: valid nodes without kids of each kind, and of each kind of text.
func leaves() []api.Rx {
	out := []api.Rx{
		empty(), of(api.RxBegin), of(api.RxEnd), of(api.RxLineBegin), of(api.RxLineEnd), of(api.RxWord), of(api.RxNotWord),
		class(), class('a', 'b'), class('a', 'a', 'c', 'c'), class('-', '-', '0', '9', ']', '^'), class(0, maxRune), class(0, 9, 11, maxRune), class(0xD800, 0xDFFF), class(0, 0, maxRune, maxRune), class('K', 'K', 'k', 'k'),
	}
	for _, r := range `\.+*?()|[]{}^$-,:<>=!#PiQEA09aZz_ "/&~` + "\x00\t\n\x1f\x7f\u0080é\u2028日\uFFFD\U0010FFFF" {
		out = append(out, lit(r))
	}
	return append(out, lit(0xD800), lit(0xDBFF), lit(0xDFFF))
}

// numbered: the same tree, its groups numbered as they have to be, and their names, where they have one, all different.
func numbered(x api.Rx) api.Rx {
	groups := 0
	return renumbered(clone(x), &groups)
}

func renumbered(x api.Rx, groups *int) api.Rx {
	if x.Kind == api.RxGroup {
		*groups++
		x.Cap = *groups
		if x.Name != "" {
			x.Name = "n" + strconv.Itoa(*groups)
		}
	}
	for i := range x.Kids {
		x.Kids[i] = renumbered(x.Kids[i], groups)
	}
	return x
}

// about: every node with kids out of these, at most two of them.
func about(kids []api.Rx) []api.Rx {
	var out []api.Rx
	for _, k := range kids {
		out = append(out, group(1, "", k), group(1, "n", k), rep(0, -1, k), lazy(0, -1, k), rep(1, -1, k), rep(0, 1, k), lazy(2, 2, k), rep(2, -1, k), rep(0, 0, k), rep(3, 5, k))
		for _, l := range kids {
			out = append(out, cat(k, l), alt(k, l))
		}
	}
	for i := range out {
		out[i] = numbered(out[i])
	}
	return out
}

var allLeaves = leaves()

// someTree: a valid tree, at most so deep.
func someTree(r *rand.Rand, deep int) api.Rx {
	return numbered(anyTree(r, deep))
}

func anyTree(r *rand.Rand, deep int) api.Rx {
	if deep == 0 || r.IntN(5) == 0 {
		if r.IntN(3) == 0 {
			return someClass(r)
		}
		return allLeaves[r.IntN(len(allLeaves))]
	}
	switch r.IntN(4) {
	case 0:
		return group(0, strings.Repeat("n", r.IntN(2)), anyTree(r, deep-1))
	case 1:
		least := []int{0, 0, 1, 2, 7, 999, 1000}[r.IntN(7)]
		most := []int{-1, least, min(1000, least+1), 1000}[r.IntN(4)]
		x := rep(least, most, anyTree(r, deep-1))
		x.Lazy = r.IntN(2) == 0
		return x
	}
	var kids []api.Rx
	for range 2 + r.IntN(3) {
		kids = append(kids, anyTree(r, deep-1))
	}
	if r.IntN(2) == 0 {
		return cat(kids...)
	}
	return alt(kids...)
}

// someClass: a class of up to five ranges.
func someClass(r *rand.Rand) api.Rx {
	x := class()
	next := rune(r.IntN(100))
	for range r.IntN(6) {
		g := api.RuneRange{Lo: next, Hi: next + rune(r.IntN(4)*r.IntN(30))}
		x.Ranges = append(x.Ranges, g)
		next = g.Hi + 2 + rune(r.IntN(60))*rune(r.IntN(2))
	}
	if len(x.Ranges) == 1 && x.Ranges[0].Lo == x.Ranges[0].Hi {
		x.Ranges[0].Hi++
	}
	return x
}

// somePattern: a pattern that is mostly right.
func somePattern(r *rand.Rand, deep int) string {
	pick := func(list ...string) string { return list[r.IntN(len(list))] }
	if deep == 0 {
		return pick("a", "b", "k", "Z", "é", "0", ".", "^", "$", "{", "}", "]", `\d`, `\W`, `\b`, `\A`, `\z`, `\.`, `\x{1F600}`, "[a-c]", "[^a]", "[]k-]", "[[:alpha:]_]", "[^[:^word:]]", `\Qa.\E`, `\n`, "(?i)", "(?m)", "(?U)", "(?-i)", "(?s-m)")
	}
	switch r.IntN(6) {
	case 0:
		return pick("(", "(?:", "(?i:", "(?-i:", "(?mU-s:") + somePattern(r, deep-1) + ")"
	case 1:
		return "(?:" + somePattern(r, deep-1) + ")" + pick("*", "+", "?", "{2}", "{2,}", "{1,3}", "{0}") + pick("", "?")
	case 2:
		return somePattern(r, deep-1) + "|" + somePattern(r, deep-1)
	case 3:
		return pick("a", ".", "[ab]", `\d`) + pick("*", "+", "?", "{2}", "{,2}", "{3,4}", "{a") + pick("", "?", "b")
	}
	return somePattern(r, deep-1) + somePattern(r, deep-1)
}

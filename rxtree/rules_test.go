package rxtree_test

import (
	"fmt"
	"math"
	"slices"
	"strings"
	"sync"
	"testing"
	"unsafe"

	"weir/api"
	"weir/rxtree"
)

// askTree asks the three calls that take a tree.
func askTree(x api.Rx) string {
	s, e := rxtree.Show(x)
	return fmt.Sprintf("%q %d %v %q", s, e, rxtree.Valid(x), rxtree.Groups(x))
}

// askText asks the two calls that take a text.
func askText(s string) string {
	x, e := rxtree.Parse(s)
	return fmt.Sprintf("%v %d %q", x, e, rxtree.Quote(s))
}

// hostileTrees: trees that hold themselves, share their parts again and again, or are deep or wide beyond measure; none is valid.
func hostileTrees() []api.Rx {
	var out []api.Rx
	for _, x := range []api.Rx{cat(empty(), empty()), alt(lit('a'), lit('b')), rep(0, -1, empty()), group(1, "", empty()), alt(empty(), cat(empty(), rep(0, 1, empty())))} {
		ring := clone(x)
		last := &ring.Kids[len(ring.Kids)-1]
		if len(last.Kids) > 0 {
			last = &last.Kids[1].Kids[0]
		}
		*last = ring
		out = append(out, ring)
		both := clone(x)
		for i := range both.Kids {
			both.Kids[i] = both
		}
		out = append(out, both)
	}
	twice, wide := lit('a'), lit('a')
	for range 200 {
		twice = alt(twice, cat(twice, twice))
	}
	for range 8 {
		wide = alt(slices.Repeat([]api.Rx{cat(wide, lit('b'))}, 50)...)
	}
	out = append(out, twice, wide, cat(slices.Repeat([]api.Rx{lit('a')}, 1<<20)...))
	for _, wrap := range []func(api.Rx) api.Rx{
		func(x api.Rx) api.Rx { return rep(0, -1, x) },
		func(x api.Rx) api.Rx { return group(1, "", x) },
		func(x api.Rx) api.Rx { return cat(x, x) },
		func(x api.Rx) api.Rx { return api.Rx{Kind: api.RxEmpty, Kids: []api.Rx{x}} },
		func(x api.Rx) api.Rx { return api.Rx{Kids: []api.Rx{x}} },
	} {
		x := lit('a')
		for range 1 << 16 {
			x = wrap(x)
		}
		out = append(out, x)
	}
	for _, n := range []int{math.MinInt, math.MinInt32, -1, math.MaxInt32, math.MaxInt} {
		out = append(out, api.Rx{Kind: n, R: rune(n), Ranges: []api.RuneRange{{Lo: rune(n), Hi: rune(n)}}, Min: n, Max: n, Cap: n, Name: "\xff"}, rep(n, n, lit('a')), rep(0, min(n, -2), lit('a')), group(min(n, 0), "", lit('a')), lit(min(rune(n), -1)), class(rune(n), rune(n), rune(n), rune(n)))
	}
	return append(out, api.Rx{}, group(1, strings.Repeat("n", 1<<20)+"-", lit('a')))
}

// P1, rule 1: no call panics, and each ends, whatever it is given.
func TestTotal(t *testing.T) {
	t.Parallel()
	for i, x := range hostileTrees() {
		if s, e := rxtree.Show(x); rxtree.Valid(x) || len(rxtree.Groups(x)) != 0 || s != "" || e != api.ErrArg {
			t.Errorf("hostile tree %d: %q, %d", i, s, e)
		}
	}
	const mostly = "\\.+*?()|[]{}^$:-aPQE<>imsUx019,d\xc3\xa9"
	r := someRand()
	for range 20000 {
		b := make([]byte, r.IntN(30))
		for i := range b {
			b[i] = byte(r.IntN(256))
			if r.IntN(3) > 0 {
				b[i] = mostly[r.IntN(len(mostly))]
			}
		}
		askText(string(b))
		checkParse(t, string(b))
	}
	for _, s := range []string{strings.Repeat("(", 1<<22), strings.Repeat("[", 1<<22), strings.Repeat("\xff", 1<<22), strings.Repeat("[:", 2048), "[" + strings.Repeat("[:", 2047), strings.Repeat("a{", 2048), strings.Repeat(`\Q`, 2048), strings.Repeat("{1", 2048), strings.Repeat("(?i", 1000), "[" + strings.Repeat(`\D\S\W`, 600) + "]", strings.Repeat("(?i)", 1024), strings.Repeat("[^a]", 1024)} {
		askText(s)
		checkParse(t, s)
	}
}

// P1, rule 1: classes that are as great as they can be, held by every node of a tree.
func TestGreatClasses(t *testing.T) {
	x := class()
	for r := rune(0); r <= maxRune; r += 2 {
		x.Ranges = append(x.Ranges, api.RuneRange{Lo: r, Hi: r})
	}
	row := cat(slices.Repeat([]api.Rx{x}, 20)...)
	if s, e := rxtree.Show(row); !rxtree.Valid(row) || s != "" || e != api.ErrLong {
		t.Errorf("%q, %d", s, e)
	}
	x.Ranges[len(x.Ranges)-1].Lo--
	if rxtree.Valid(row) {
		t.Error("two ranges that touch")
	}
}

// P1, rule 3: beside an error the tree and the text are zero.
func TestZeroBesideAnError(t *testing.T) {
	for _, s := range []string{"(a)(b", "(?P<x>ab|c*)[z-a]", "ab*c)", `[a-z]\y`, "a{2}b**", "(?i)(a)(?=b)", "(?P<x>a)(?<x>b)", "ab\xff", strings.Repeat("ab|", 2000)} {
		if x, e := rxtree.Parse(s); e == api.OK || !same(x, api.Rx{}) {
			t.Errorf("Parse(%.20q) = %v, %d", s, x, e)
		}
	}
	for _, x := range []api.Rx{cat(lit('a'), api.Rx{}), cat(group(1, "x", lit('a')), group(1, "y", lit('b'))), cat(slicesOf(api.MaxPattern+1, lit('a'))...), alt(group(1, "", lit('a')), rep(2, 1, lit('a')))} {
		if s, e := rxtree.Show(x); e == api.OK || s != "" {
			t.Errorf("Show: %q, %d", s, e)
		}
	}
	if names := rxtree.Groups(cat(group(1, "x", lit('a')), api.Rx{})); len(names) != 0 {
		t.Errorf("Groups of a tree that isn't valid: %q", names)
	}
}

// bare: the same tree with empty lists for nil ones, and nil ones for empty ones.
func bare(x api.Rx) api.Rx {
	x = clone(x)
	if x.Ranges == nil {
		x.Ranges = []api.RuneRange{}
	} else if len(x.Ranges) == 0 {
		x.Ranges = nil
	}
	if x.Kids == nil {
		x.Kids = make([]api.Rx, 0, 3)
	} else if len(x.Kids) == 0 {
		x.Kids = nil
	}
	for i := range x.Kids {
		x.Kids[i] = bare(x.Kids[i])
	}
	return x
}

// P1, rule 4: nil and the empty list are one and the same.
func TestNilIsEmpty(t *testing.T) {
	for _, x := range slices.Concat(leaves(), about(leaves()[:12]), []api.Rx{{}, cat(), {Kind: api.RxGroup, Cap: 1}}) {
		if a, b := askTree(x), askTree(bare(x)); a != b {
			t.Fatalf("%v: %s, but with empty lists %s", x, a, b)
		}
	}
	if s, e := rxtree.Show(api.Rx{Kind: api.RxClass, Ranges: []api.RuneRange{}}); s != `[^\x{0}-\x{10ffff}]` || e != api.OK {
		t.Errorf("the class of an empty list: %q, %d", s, e)
	}
}

// roomy: the same tree, with marks in the room behind each of its lists; and all of that memory.
func roomy(x api.Rx) (api.Rx, func() string) {
	var looks []func() string
	var build func(x api.Rx) api.Rx
	build = func(x api.Rx) api.Rx {
		ranges := append(slices.Clone(x.Ranges), slices.Repeat([]api.RuneRange{{Lo: -7, Hi: -9}}, 5)...)
		var kids []api.Rx
		for _, kid := range x.Kids {
			kids = append(kids, build(kid))
		}
		kids = append(kids, slices.Repeat([]api.Rx{{Kind: -7, Name: "mark"}}, 5)...)
		x.Ranges, x.Kids = ranges[:len(x.Ranges)], kids[:len(x.Kids)]
		looks = append(looks, func() string { return fmt.Sprint(ranges, kids) })
		return x
	}
	y := build(x)
	return y, func() string {
		s := ""
		for _, look := range looks {
			s += look()
		}
		return s
	}
}

// P1, rule 5: what is handed in stays as it is, the room behind its lists too; and what that room holds counts for nothing.
func TestTreesStayAsTheyAre(t *testing.T) {
	t.Parallel()
	r := someRand()
	for i := range 1500 {
		x := someTree(r, 1+i%4)
		if i%3 == 0 {
			all := pointers(&x)
			list := spoiled(*all[0])
			*all[r.IntN(len(all))] = list[r.IntN(len(list))]
		}
		y, look := roomy(x)
		before := look()
		if a, b := askTree(x), askTree(y); a != b {
			t.Fatalf("%v: %s, but with marks behind its lists %s", x, a, b)
		}
		if look() != before {
			t.Fatalf("%v was changed", x)
		}
	}
}

// A stretch of memory, from its first byte to behind its last.
type stretch struct {
	from, to uintptr
}

func (a stretch) meets(b stretch) bool { return a.from < b.to && b.from < a.to }

func stretchOf[T any](list []T) stretch {
	var one T
	p := uintptr(unsafe.Pointer(unsafe.SliceData(list)))
	return stretch{p, p + uintptr(cap(list))*unsafe.Sizeof(one)}
}

func stretchOfText(s string) stretch {
	p := uintptr(unsafe.Pointer(unsafe.StringData(s)))
	return stretch{p, p + uintptr(len(s))}
}

// stretches: the memory of a tree, list by list, spare room included, and of its names.
func stretches(x api.Rx) []stretch {
	out := []stretch{stretchOf(x.Ranges), stretchOf(x.Kids), stretchOfText(x.Name)}
	for _, kid := range x.Kids {
		out = append(out, stretches(kid)...)
	}
	return slices.DeleteFunc(out, func(s stretch) bool { return s.from == s.to })
}

// P1, rule 5: no two lists of a tree that Parse answers share memory, nor do those of two answers, nor its names with the pattern.
func TestTreesAreNewMemory(t *testing.T) {
	t.Parallel()
	r := someRand()
	for i := range 3000 {
		p := "(?P<first>" + somePattern(r, 1+i%5) + `)(?<second>a|[^b]*)\d\w\D[[:alpha:]]` + somePattern(r, 2)
		x, e := rxtree.Parse(p)
		y, f := rxtree.Parse(p)
		if e != f {
			t.Fatalf("%q: %d, then %d", p, e, f)
		}
		all := append(stretches(x), stretches(y)...)
		all = append(all, stretchOfText(p))
		slices.SortFunc(all, func(a, b stretch) int {
			if a.from < b.from {
				return -1
			}
			return 1
		})
		for j := 1; j < len(all); j++ {
			if all[j].meets(all[j-1]) {
				t.Fatalf("%q: memory is shared", p)
			}
		}
	}
}

// spoil writes over all of a tree that can be written over, spare room included.
func spoil(x *api.Rx) {
	for i := range x.Kids {
		spoil(&x.Kids[i])
	}
	ranges, kids := x.Ranges[:cap(x.Ranges)], x.Kids[:cap(x.Kids)]
	for i := range ranges {
		ranges[i] = api.RuneRange{Lo: -3, Hi: -4}
	}
	for i := range kids {
		kids[i] = api.Rx{Kind: -5, Name: "spoiled"}
	}
}

// P1, rules 5 and 6: an answer that is written over changes no other answer, now or later.
func TestSpoiledAnswers(t *testing.T) {
	for _, p := range []string{"abc", "(a|b)*c", `\d\w\s\D\W\S.[a-z][[:alpha:]][^[:upper:]]`, "(?i)(?P<x>k|[a-c]){2,3}", "(?s).[^a]", "(?:)*|", "(?m)^$"} {
		want := fmt.Sprint(parsed(p))
		x, y := parsed(p), parsed(p)
		spoil(&x)
		if fmt.Sprint(y) != want || fmt.Sprint(parsed(p)) != want {
			t.Errorf("%q: %v, then %v, not %s", p, y, parsed(p), want)
		}
	}
	x := parsed("(?P<x>a)(b)")
	one, two := rxtree.Groups(x), rxtree.Groups(x)
	one[0], one[1] = "spoiled", "too"
	if two[0] != "x" || rxtree.Groups(x)[0] != "x" || x.Kids[0].Name != "x" {
		t.Error("Groups of one tree share a list")
	}
	x.Kids[0].Name = "y"
	if two[0] != "x" {
		t.Error("Groups keeps the tree")
	}
}

// P1, rule 5: texts that are answered are no parts of those that were handed in.
func TestTextsAreNewMemory(t *testing.T) {
	s := strings.Repeat("plain text ", 20)
	for _, in := range []string{s, s[:11], s[:1], s + ".", "." + s} {
		if stretchOfText(rxtree.Quote(in)).meets(stretchOfText(in)) {
			t.Errorf("Quote(%q) is a part of it", in)
		}
	}
	name := strings.Repeat("name", 20)
	for _, n := range []string{name, name[:9]} {
		x := cat(group(1, n, lit('a')), group(2, "", lit('b')))
		for _, got := range rxtree.Groups(x) {
			if stretchOfText(got).meets(stretchOfText(name)) {
				t.Errorf("the name %q is that of the tree", got)
			}
		}
		if a, b := rxtree.Groups(x), rxtree.Groups(x); stretchOfText(a[0]).meets(stretchOfText(b[0])) {
			t.Error("two answers share a name")
		}
		if s, _ := rxtree.Show(x); stretchOfText(s).meets(stretchOfText(name)) {
			t.Error("Show answers a part of the tree")
		}
	}
}

// P2, and P1, rules 6 and 10: a call answers the same ahead of others, behind them and beside them.
func TestNothingIsKept(t *testing.T) {
	r := someRand()
	var patterns []string
	var trees []api.Rx
	for i := range 60 {
		patterns = append(patterns, somePattern(r, 1+i%5), "(?P<x>a)(?<y>b", "(?P<x>a)(?<y>b)", strings.Repeat("(", i)+strings.Repeat(")", i), "(?i)a", "a", `\Qa.`)
		trees = append(trees, someTree(r, 1+i%4), api.Rx{}, group(1, "x", lit('a')))
	}
	ask := func() []string {
		var out []string
		for _, p := range patterns {
			out = append(out, askText(p))
		}
		for _, x := range trees {
			out = append(out, askTree(x))
		}
		return out
	}
	want := ask()
	slices.Reverse(patterns)
	slices.Reverse(trees)
	ask()
	slices.Reverse(patterns)
	slices.Reverse(trees)
	answers := make([][]string, 8)
	var all sync.WaitGroup
	for i := range answers {
		all.Go(func() { answers[i] = ask() })
	}
	all.Wait()
	for _, got := range answers {
		if !slices.Equal(got, want) {
			t.Fatal("an answer hangs on what else is asked")
		}
	}
}

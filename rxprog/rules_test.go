package rxprog_test

import (
	"fmt"
	"math"
	"slices"
	"strings"
	"sync"
	"testing"
	"unsafe"

	"weir/api"
	"weir/rxprog"
)

// askTree asks the five calls that take a tree.
func askTree(x api.Rx) string {
	p, e := rxprog.Compile(x)
	words, ok := rxprog.Words(x)
	return fmt.Sprintf("%d %v %d %v %q %v %q", rxprog.Size(x), p, e, rxprog.Hollow(x), words, ok, rxprog.Prefix(x))
}

// P1, rule 1: no call panics, and each ends, whatever tree it is given.
func TestTotalTrees(t *testing.T) {
	t.Parallel()
	wrong := "0 {[] 0 0 []} 2 false [] false \"\""
	for i, x := range slices.Concat(hostileTrees(), wrongTrees()) {
		if got := askTree(x); got != wrong {
			t.Errorf("tree %d: %s", i, got)
		}
	}
	r := someRand()
	for range 3000 {
		x := someTree(r, 3, []int{0, 1, 2, 1000})
		spoilOne(&x, r.IntN(4), r.IntN(1000))
		if rxprog.Size(x) < 3000 {
			askTree(x)
		}
	}
}

// spoilOne changes a field of one of a tree's nodes.
func spoilOne(x *api.Rx, field, n int) {
	if len(x.Kids) > 0 && n%3 > 0 {
		spoilOne(&x.Kids[n%len(x.Kids)], field, n/3)
		return
	}
	v := []int{math.MinInt, -1, 0, 3, 14, 1001, math.MaxInt}[n%7]
	*[]*int{&x.Kind, &x.Min, &x.Max, &x.Cap}[field] = v
}

// P1, rule 1: Sound of programs of any shape.
func TestTotalPrograms(t *testing.T) {
	t.Parallel()
	ends := []int{math.MinInt, math.MinInt32, -1, 0, 1, 2, math.MaxInt32, math.MaxInt}
	r := someRand()
	some := func() int { return ends[r.IntN(len(ends))] }
	for range 20000 {
		p := api.Prog{Start: some(), Groups: some(), Names: make([]string, r.IntN(3))}
		for range r.IntN(4) {
			i := api.Inst{Op: r.IntN(14) - 1, Out: some(), Alt: some(), Arg: some()}
			for range r.IntN(3) {
				i.Ranges = append(i.Ranges, api.RuneRange{Lo: rune(some()), Hi: rune(some())})
			}
			p.Insts = append(p.Insts, i)
		}
		if rxprog.Sound(p) != soundByWords(p) {
			t.Fatalf("Sound(%v)", p)
		}
	}
	long := class()
	for r := rune(0); r <= runesEnd; r += 2 {
		long.Ranges = append(long.Ranges, api.RuneRange{Lo: r, Hi: r})
	}
	for _, n := range []int{1, 50} {
		p := api.Prog{Insts: slices.Repeat([]api.Inst{{Op: api.OpRune, Ranges: long.Ranges}}, n)}
		checkSound(t, p, true, "great lists of ranges")
	}
	checkSound(t, api.Prog{Insts: make([]api.Inst, 1<<20)}, false, "a million instructions")
	checkSound(t, api.Prog{Insts: []api.Inst{{Op: api.OpMatch}}, Groups: 1 << 20, Names: make([]string, 1<<20)}, false, "a million groups")
	x := cat(long, rep(0, 0, long), long)
	if p := compiled(t, x); !rxprog.Sound(p) || len(p.Insts) != 3 || rxprog.Prefix(x) != "" || rxprog.Hollow(x) {
		t.Error("a class of many ranges")
	}
	checkNoList(t, x)
}

// bare: the same tree with empty lists for nil ones, and nil ones for empty ones.
func bare(x api.Rx) api.Rx {
	x = clone(x)
	if x.Ranges == nil {
		x.Ranges = []api.RuneRange{}
	} else if len(x.Ranges) == 0 {
		x.Ranges = nil
	}
	if x.Kids == nil {
		x.Kids = make([]api.Rx, 0, 3)
	}
	for i := range x.Kids {
		x.Kids[i] = bare(x.Kids[i])
	}
	return x
}

// P1, rule 4: nil and the empty list are one and the same.
func TestNilIsEmpty(t *testing.T) {
	for _, x := range slices.Concat(leaves(), about(leaves()[:12]), wrongTrees()) {
		if a, b := askTree(x), askTree(bare(x)); a != b {
			t.Fatalf("%s: %s, but with empty lists %s", told(x), a, b)
		}
	}
	p := whole()
	for i := range p.Insts {
		if p.Insts[i].Ranges == nil {
			p.Insts[i].Ranges = []api.RuneRange{}
		}
	}
	checkSound(t, p, true, "empty lists of ranges")
	checkSound(t, api.Prog{Insts: []api.Inst{{Op: api.OpMatch}}, Names: []string{}}, true, "an empty list of names")
}

// roomy: the same tree, with marks in the room behind each of its lists; and all of that memory.
func roomy(x api.Rx) (api.Rx, func() string) {
	var looks []func() string
	var build func(x api.Rx) api.Rx
	build = func(x api.Rx) api.Rx {
		ranges := append(slices.Clone(x.Ranges), slices.Repeat([]api.RuneRange{{Lo: -7, Hi: -9}}, 5)...)
		var kids []api.Rx
		for _, kid := range x.Kids {
			kids = append(kids, build(kid))
		}
		kids = append(kids, slices.Repeat([]api.Rx{{Kind: -7, Name: "mark"}}, 5)...)
		x.Ranges, x.Kids = ranges[:len(x.Ranges)], kids[:len(x.Kids)]
		looks = append(looks, func() string { return fmt.Sprint(ranges, kids) })
		return x
	}
	y := build(x)
	return y, func() string {
		s := ""
		for _, look := range looks {
			s += look()
		}
		return s
	}
}

// P1, rule 5: trees that are handed in stay as they are, the room behind their lists too; and what that room holds counts for nothing.
func TestTreesStayAsTheyAre(t *testing.T) {
	t.Parallel()
	r := someRand()
	for i := range 1500 {
		x := someTree(r, 1+i%4, []int{0, 1, 2, 3})
		if i%4 == 0 {
			spoilOne(&x, i/4%4, r.IntN(1000))
		}
		y, look := roomy(x)
		before := look()
		if a, b := askTree(x), askTree(y); a != b {
			t.Fatalf("%s: %s, but with marks behind its lists %s", told(x), a, b)
		}
		if look() != before {
			t.Fatalf("%s was changed", told(x))
		}
	}
}

// P1, rule 5: so do programs.
func TestProgramsStayAsTheyAre(t *testing.T) {
	marks := slices.Repeat([]api.Inst{{Op: 99, Ranges: class(-5, -6).Ranges}}, 4)
	for _, start := range []int{3, 99} {
		p := whole()
		insts := append(p.Insts, marks...)
		names := append(p.Names, "mark", "mark")
		ranges := append(p.Insts[1].Ranges, api.RuneRange{Lo: -1, Hi: -1})
		p.Insts, p.Names, p.Start = insts[:len(p.Insts)], names[:len(p.Names)], start
		p.Insts[1].Ranges = ranges[:2]
		before := fmt.Sprint(p, insts, names, ranges)
		if rxprog.Sound(p) != (start == 3) {
			t.Errorf("Start %d", start)
		}
		if fmt.Sprint(p, insts, names, ranges) != before {
			t.Error("the program was changed")
		}
	}
}

// A stretch of memory, from its first byte to behind its last.
type stretch struct {
	from, to uintptr
}

func stretchOf[T any](list []T) stretch {
	var one T
	p := uintptr(unsafe.Pointer(unsafe.SliceData(list)))
	return stretch{p, p + uintptr(cap(list))*unsafe.Sizeof(one)}
}

func stretchOfText(s string) stretch {
	p := uintptr(unsafe.Pointer(unsafe.StringData(s)))
	return stretch{p, p + uintptr(len(s))}
}

func stretchesOfTree(x api.Rx) []stretch {
	out := []stretch{stretchOf(x.Ranges), stretchOf(x.Kids), stretchOfText(x.Name)}
	for _, kid := range x.Kids {
		out = append(out, stretchesOfTree(kid)...)
	}
	return out
}

func stretchesOfTexts(list []string) []stretch {
	out := []stretch{stretchOf(list)}
	for _, s := range list {
		out = append(out, stretchOfText(s))
	}
	return out
}

func stretchesOfProgram(p api.Prog) []stretch {
	out := append(stretchesOfTexts(p.Names), stretchOf(p.Insts))
	for _, i := range p.Insts {
		out = append(out, stretchOf(i.Ranges))
	}
	return out
}

// checkApart: no two of these share memory.
func checkApart(t *testing.T, all []stretch, why string) {
	t.Helper()
	all = slices.DeleteFunc(all, func(s stretch) bool { return s.from == s.to })
	slices.SortFunc(all, func(a, b stretch) int {
		if a.from < b.from {
			return -1
		}
		return 1
	})
	for i := 1; i < len(all); i++ {
		if all[i].from < all[i-1].to {
			t.Fatalf("%s: memory is shared", why)
		}
	}
}

// P1, rule 5: no list of an answer shares memory with the tree, with another list of the answer or with another answer, spare room included.
func TestAnswersAreNewMemory(t *testing.T) {
	t.Parallel()
	r := someRand()
	longName := strings.Repeat("name", 9)
	for i := range 1500 {
		x := numbered(rep(1, 2, cat(group(1, "n", class('a', 'b', 'd', 'e')), rep(2, 3, class('0', '9')), someTree(r, 1+i%4, []int{0, 1, 2}))))
		if rxprog.Size(x) > 2000 {
			continue
		}
		x.Kids[0].Kids[0].Name = longName
		p, _ := rxprog.Compile(x)
		q, _ := rxprog.Compile(x)
		checkApart(t, slices.Concat(stretchesOfTree(x), stretchesOfProgram(p), stretchesOfProgram(q)), told(x))
	}
	for _, pattern := range []string{"a", "", "a|b", "(?:ab|é){0,2}", "a{9}", "[a-c]x?", "(?:|a)(?:b|)", "(?:a{1}){1}", "abc", "(?:a|a)bc+", "(?:日本)+"} {
		x := tree(t, pattern)
		a, _ := rxprog.Words(x)
		b, _ := rxprog.Words(x)
		checkApart(t, slices.Concat(stretchesOfTexts(a), stretchesOfTexts(b), stretchesOfTexts([]string{rxprog.Prefix(x)}), stretchesOfTexts([]string{rxprog.Prefix(x)})), pattern)
	}
}

// overwrite writes over all of a tree that can be written over, spare room included.
func overwrite(x *api.Rx) {
	for i := range x.Kids {
		overwrite(&x.Kids[i])
	}
	ranges, kids := x.Ranges[:cap(x.Ranges)], x.Kids[:cap(x.Kids)]
	for i := range ranges {
		ranges[i] = api.RuneRange{Lo: -3, Hi: -4}
	}
	for i := range kids {
		kids[i] = api.Rx{Kind: -5, Name: "spoiled"}
	}
}

// P1, rules 5 and 6: a tree that the caller changes, and an answer that the caller writes over, change no other answer.
func TestChangedAfterwards(t *testing.T) {
	for _, pattern := range []string{"abc", "(a|[b-d])*c", `(?P<x>[a-z][0-9]){2,3}`, "(?:[ab]|[ab])+", "[a-cx]{2}", "(?P<one>a)(?P<two>b)"} {
		x := tree(t, pattern)
		want := askTree(x)
		p, e := rxprog.Compile(x)
		words, ok := rxprog.Words(x)
		size, hollow, prefix := rxprog.Size(x), rxprog.Hollow(x), rxprog.Prefix(x)
		spoiled, _ := rxprog.Compile(x)
		insts, names := spoiled.Insts[:cap(spoiled.Insts)], spoiled.Names[:cap(spoiled.Names)]
		for i := range insts {
			ranges := insts[i].Ranges[:cap(insts[i].Ranges)]
			for j := range ranges {
				ranges[j] = api.RuneRange{Lo: -1, Hi: -2}
			}
			insts[i] = api.Inst{Op: 77}
		}
		for i := range names {
			names[i] = "spoiled"
		}
		list, _ := rxprog.Words(x)
		list = list[:cap(list)]
		for i := range list {
			list[i] = "spoiled"
		}
		if got := askTree(x); got != want {
			t.Errorf("%q: behind a spoiled answer %s, not %s", pattern, got, want)
		}
		overwrite(&x)
		if got := fmt.Sprintf("%d %v %d %v %q %v %q", size, p, e, hollow, words, ok, prefix); got != want {
			t.Errorf("%q: the answer is now %s, not %s", pattern, got, want)
		}
		if got := askTree(tree(t, pattern)); got != want {
			t.Errorf("%q: later %s, not %s", pattern, got, want)
		}
	}
}

// P1, rule 5: one range of a program that is written over changes no other instruction, though both come from one node.
func TestRangesOfOneNode(t *testing.T) {
	p := compiled(t, rep(2, 3, class('a', 'b', 'd', 'e')))
	p.Insts[0].Ranges[0] = api.RuneRange{Lo: 7, Hi: 8}
	p.Insts[0].Ranges = append(p.Insts[0].Ranges[:1], api.RuneRange{Lo: 9, Hi: 9})
	want := class('a', 'b', 'd', 'e').Ranges
	if !slices.Equal(p.Insts[1].Ranges, want) || !slices.Equal(p.Insts[3].Ranges, want) {
		t.Errorf("%v", p.Insts)
	}
	p = compiled(t, rep(3, 3, lit('a')))
	p.Insts[0].Ranges[0].Hi = 'z'
	if p.Insts[1].Ranges[0].Hi != 'a' || p.Insts[2].Ranges[0].Hi != 'a' {
		t.Errorf("%v", p.Insts)
	}
}

// P2, and P1, rules 6 and 10: a call answers the same ahead of others, behind them and beside them.
func TestNothingIsKept(t *testing.T) {
	r := someRand()
	var trees []api.Rx
	for i := range 100 {
		x := someTree(r, 1+i%4, []int{0, 1, 2, 3})
		if rxprog.Size(x) < 2000 {
			trees = append(trees, x)
		}
		trees = append(trees, of(0), lit('a'), group(1, "x", class('a', 'c')))
	}
	ask := func() []string {
		var out []string
		for _, x := range trees {
			p, _ := rxprog.Compile(x)
			out = append(out, askTree(x)+fmt.Sprint(rxprog.Sound(p)))
		}
		return out
	}
	want := ask()
	slices.Reverse(trees)
	ask()
	slices.Reverse(trees)
	answers := make([][]string, 8)
	var all sync.WaitGroup
	for i := range answers {
		all.Go(func() { answers[i] = ask() })
	}
	all.Wait()
	for _, got := range answers {
		if !slices.Equal(got, want) {
			t.Fatal("an answer hangs on what else is asked")
		}
	}
}

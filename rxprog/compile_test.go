package rxprog_test

import (
	"slices"
	"strconv"
	"testing"

	"weir/api"
	"weir/rxprog"
)

// An instruction in one line: Op, Out, Alt, Arg, and the ends of its ranges.
type line struct {
	op, out, alt, arg int
	ends              []rune
}

// checkProgram: the program of a tree is that one.
func checkProgram(t *testing.T, x api.Rx, names []string, want []line) {
	t.Helper()
	p := compiled(t, x)
	if p.Start != 0 || p.Groups != len(names) || !slices.Equal(p.Names, names) {
		t.Errorf("%s: Start %d, Groups %d, Names %q", told(x), p.Start, p.Groups, p.Names)
	}
	var insts []api.Inst
	for _, l := range want {
		insts = append(insts, api.Inst{Op: l.op, Out: l.out, Alt: l.alt, Arg: l.arg, Ranges: class(l.ends...).Ranges})
	}
	if !slices.EqualFunc(p.Insts, insts, sameInst) {
		t.Errorf("%s: %v, not %v", told(x), p.Insts, insts)
	}
}

var aa = []rune{'a', 'a'}

// P9.2: the chapter's examples.
func TestCompileExamples(t *testing.T) {
	checkProgram(t, tree(t, "a|bc"), nil, []line{{api.OpSplit, 1, 3, 0, nil}, {api.OpRune, 2, 0, 0, aa}, {api.OpJump, 5, 0, 0, nil}, {api.OpRune, 4, 0, 0, []rune{'b', 'b'}}, {api.OpRune, 5, 0, 0, []rune{'c', 'c'}}, {op: api.OpMatch}})
	checkProgram(t, tree(t, "(a)*?"), []string{""}, []line{{api.OpSplit, 5, 1, 0, nil}, {api.OpSave, 2, 0, 2, nil}, {api.OpRune, 3, 0, 0, aa}, {api.OpSave, 4, 0, 3, nil}, {api.OpJump, 0, 0, 0, nil}, {op: api.OpMatch}})
	checkProgram(t, tree(t, "a{1,3}"), nil, []line{{api.OpRune, 1, 0, 0, aa}, {api.OpSplit, 2, 5, 0, nil}, {api.OpRune, 3, 0, 0, aa}, {api.OpSplit, 4, 5, 0, nil}, {api.OpRune, 5, 0, 0, aa}, {op: api.OpMatch}})
}

// P9.2: each kind of node without kids.
func TestCompileLeaves(t *testing.T) {
	match := line{op: api.OpMatch}
	checkProgram(t, empty(), nil, []line{match})
	for _, r := range []rune{0, 'a', 'é', 0xD800, 0xDFFF, runesEnd} {
		checkProgram(t, lit(r), nil, []line{{api.OpRune, 1, 0, 0, []rune{r, r}}, match})
	}
	for _, ends := range [][]rune{{'a', 'b'}, {'a', 'a', 'c', 'c'}, {0, runesEnd}, {0, 9, 11, runesEnd}, {0xD800, 0xDFFF}} {
		checkProgram(t, class(ends...), nil, []line{{api.OpRune, 1, 0, 0, ends}, match})
	}
	checkProgram(t, class(), nil, []line{{op: api.OpFail}, match})
	checkProgram(t, api.Rx{Kind: api.RxClass, Ranges: []api.RuneRange{}}, nil, []line{{op: api.OpFail}, match})
	checkProgram(t, of(api.RxBegin), nil, []line{{api.OpBegin, 1, 0, 0, nil}, match})
	checkProgram(t, of(api.RxEnd), nil, []line{{api.OpEnd, 1, 0, 0, nil}, match})
	checkProgram(t, of(api.RxLineBegin), nil, []line{{api.OpLineBegin, 1, 0, 0, nil}, match})
	checkProgram(t, of(api.RxLineEnd), nil, []line{{api.OpLineEnd, 1, 0, 0, nil}, match})
	checkProgram(t, of(api.RxWord), nil, []line{{api.OpWord, 1, 0, 0, nil}, match})
	checkProgram(t, of(api.RxNotWord), nil, []line{{api.OpWord, 1, 0, 1, nil}, match})
}

// P9.2: rows, alternatives (empty ones too) and groups.
func TestCompileKids(t *testing.T) {
	a, runeAt, match := lit('a'), func(out int) line { return line{api.OpRune, out, 0, 0, aa} }, line{op: api.OpMatch}
	split := func(out, other int) line { return line{api.OpSplit, out, other, 0, nil} }
	jump := func(out int) line { return line{api.OpJump, out, 0, 0, nil} }
	save := func(arg, out int) line { return line{api.OpSave, out, 0, arg, nil} }
	checkProgram(t, cat(a, empty(), cat(a, a)), nil, []line{runeAt(1), runeAt(2), runeAt(3), match})
	checkProgram(t, cat(a, class(), a), nil, []line{runeAt(1), {op: api.OpFail}, runeAt(3), match})
	checkProgram(t, alt(a, a, a), nil, []line{split(1, 3), runeAt(2), jump(7), split(4, 6), runeAt(5), jump(7), runeAt(7), match})
	checkProgram(t, alt(empty(), empty()), nil, []line{split(1, 2), jump(2), match})
	checkProgram(t, alt(empty(), a, empty()), nil, []line{split(1, 2), jump(5), split(3, 5), runeAt(4), jump(5), match})
	checkProgram(t, cat(a, alt(a, class()), a), nil, []line{runeAt(1), split(2, 4), runeAt(3), jump(5), {op: api.OpFail}, runeAt(6), match})
	checkProgram(t, alt(a, alt(a, a)), nil, []line{split(1, 3), runeAt(2), jump(7), split(4, 6), runeAt(5), jump(7), runeAt(7), match})
	checkProgram(t, alt(alt(a, a), a), nil, []line{split(1, 6), split(2, 4), runeAt(3), jump(5), runeAt(5), jump(7), runeAt(7), match})
	checkProgram(t, group(1, "x", empty()), []string{"x"}, []line{save(2, 1), save(3, 2), match})
	checkProgram(t, cat(group(1, "", group(2, "in", a)), group(3, "", empty())), []string{"", "in", ""}, []line{save(2, 1), save(4, 2), runeAt(3), save(5, 4), save(3, 5), save(6, 6), save(7, 7), match})
}

// P9.2: repeats of each form, lazy and not, alone and behind something.
func TestCompileRepeats(t *testing.T) {
	a, runeAt, match := lit('a'), func(out int) line { return line{api.OpRune, out, 0, 0, aa} }, line{op: api.OpMatch}
	split := func(out, other int) line { return line{api.OpSplit, out, other, 0, nil} }
	jump := func(out int) line { return line{api.OpJump, out, 0, 0, nil} }
	checkProgram(t, rep(0, -1, a), nil, []line{split(1, 3), runeAt(2), jump(0), match})
	checkProgram(t, lazy(0, -1, a), nil, []line{split(3, 1), runeAt(2), jump(0), match})
	checkProgram(t, rep(2, -1, a), nil, []line{runeAt(1), runeAt(2), split(3, 5), runeAt(4), jump(2), match})
	checkProgram(t, cat(a, lazy(1, -1, a)), nil, []line{runeAt(1), runeAt(2), split(5, 3), runeAt(4), jump(2), match})
	checkProgram(t, rep(2, 2, a), nil, []line{runeAt(1), runeAt(2), match})
	checkProgram(t, lazy(2, 2, a), nil, []line{runeAt(1), runeAt(2), match})
	checkProgram(t, rep(0, 0, a), nil, []line{match})
	checkProgram(t, lazy(0, 0, group(1, "x", a)), []string{"x"}, []line{match})
	checkProgram(t, rep(0, 1, a), nil, []line{split(1, 2), runeAt(2), match})
	checkProgram(t, lazy(0, 1, a), nil, []line{split(2, 1), runeAt(2), match})
	checkProgram(t, cat(a, lazy(1, 3, a)), nil, []line{runeAt(1), runeAt(2), split(6, 3), runeAt(4), split(6, 5), runeAt(6), match})
	checkProgram(t, rep(0, -1, empty()), nil, []line{split(1, 2), jump(0), match})
	checkProgram(t, rep(3, 5, empty()), nil, []line{split(1, 2), split(2, 2), match})
	checkProgram(t, lazy(3, 5, empty()), nil, []line{split(2, 1), split(2, 2), match})
	checkProgram(t, rep(2, 3, class()), nil, []line{{op: api.OpFail}, {op: api.OpFail}, split(3, 4), {op: api.OpFail}, match})
	checkProgram(t, rep(2, 2, group(1, "", a)), []string{""}, []line{{api.OpSave, 1, 0, 2, nil}, runeAt(2), {api.OpSave, 3, 0, 3, nil}, {api.OpSave, 4, 0, 2, nil}, runeAt(5), {api.OpSave, 6, 0, 3, nil}, match})
	checkProgram(t, rep(1, 2, alt(a, empty())), nil, []line{split(1, 3), runeAt(2), jump(3), split(4, 7), split(5, 7), runeAt(6), jump(7), match})
	checkProgram(t, rep(0, -1, lazy(0, -1, a)), nil, []line{split(1, 5), split(4, 2), runeAt(3), jump(1), jump(0), match})
	checkProgram(t, rep(2, 2, rep(1, -1, a)), nil, []line{runeAt(1), split(2, 4), runeAt(3), jump(1), runeAt(5), split(6, 8), runeAt(7), jump(5), match})
}

// P9.2: the errors, in their order: a tree that isn't valid is ErrArg however great it is.
func TestCompileErrors(t *testing.T) {
	big := rep(1000, 1000, rep(1000, 1000, lit('a')))
	check := func(x api.Rx, want api.Errno) {
		t.Helper()
		p, e := rxprog.Compile(x)
		if e != want || len(p.Insts) != 0 || p.Start != 0 || p.Groups != 0 || len(p.Names) != 0 {
			t.Errorf("%s: %v, %d, not %d", told(x), p, e, want)
		}
	}
	for _, x := range wrongTrees() {
		check(x, api.ErrArg)
		check(cat(big, x), api.ErrArg)
	}
	check(cat(group(1, "x", lit('b')), of(0)), api.ErrArg)
	check(big, api.ErrBig)
	check(cat(group(1, "x", lit('a')), big), api.ErrBig)
	check(alt(lit('a'), rep(0, -1, big)), api.ErrBig)
}

// checkByWords: Compile and Size of a valid tree, against the words; whether it has a program.
func checkByWords(t *testing.T, x api.Rx) bool {
	t.Helper()
	p, e := rxprog.Compile(x)
	if size := sizeByWords(x); size > api.MaxInst {
		if e != api.ErrBig || len(p.Insts) != 0 {
			t.Fatalf("%s: %d", told(x), e)
		}
		return false
	}
	want, names := codeByWords(x), namesOf(x)
	if e != api.OK || p.Start != 0 || p.Groups != len(names) || !slices.Equal(p.Names, names) || !slices.EqualFunc(p.Insts, want, sameInst) {
		t.Fatalf("%s: %v, %d, not %v", told(x), p, e, want)
	}
	if rxprog.Size(x) != len(want) {
		t.Fatalf("%s: Size %d, not %d", told(x), rxprog.Size(x), len(want))
	}
	if !rxprog.Sound(p) || !soundByWords(p) {
		t.Fatalf("%s: the program isn't sound", told(x))
	}
	return true
}

// P9.2 and P9.3: programs by the words, with labels, of small trees and of trees made at random; and all of them are sound.
func TestCompileByWords(t *testing.T) {
	t.Parallel()
	for _, x := range smallTrees() {
		checkByWords(t, x)
	}
	r := someRand()
	programs, great := 0, 0
	for i := range 12000 {
		bounds := []int{0, 0, 1, 1, 2, 3, 5}
		if i%4 == 0 {
			bounds = []int{0, 1, 2, 7, 30, 200}
		}
		x := someTree(r, 1+i%5, bounds)
		if checkByWords(t, x) {
			programs++
			if rxprog.Size(x) > 500 {
				great++
			}
		}
	}
	if programs < 8000 || great < 50 {
		t.Errorf("%d programs, %d great ones", programs, great)
	}
}

// P9.2 and P9.3: trees at the limits of nodes, groups and brackets have programs, and those are sound.
func TestCompileGreatTrees(t *testing.T) {
	t.Parallel()
	a := lit('a')
	var groups []api.Rx
	for i := range api.MaxRxGroups {
		groups = append(groups, group(i+1, "n"+strconv.Itoa(i), a))
	}
	deepGroups := empty()
	for i := api.MaxRxGroups; i > 0; i-- {
		deepGroups = group(i, "", deepGroups)
	}
	for i, x := range []api.Rx{
		cat(many(api.MaxRxNodes-1, a)...), alt(many(3300, a)...), cat(groups...), deepGroups, rep(10, 20, cat(groups...)),
		nested(api.MaxRxDepth, a, func(x api.Rx) api.Rx { return rep(1, 1, x) }), nested(api.MaxRxDepth, a, func(x api.Rx) api.Rx { return lazy(0, -1, x) }), nested(api.MaxRxDepth, a, func(x api.Rx) api.Rx { return alt(a, x, empty()) }), nested(api.MaxRxDepth/2, a, func(x api.Rx) api.Rx { return alt(cat(a, rep(0, 1, alt(a, x))), empty()) }),
	} {
		if !checkByWords(t, x) {
			t.Errorf("tree %d is too big", i)
		}
	}
}

// P9.2: where a repeat's kid leaves nothing, no time is spent on it.
func TestCompileNothingOften(t *testing.T) {
	thousand := func(x api.Rx) api.Rx { return rep(1000, 1000, x) }
	for _, x := range []api.Rx{
		nested(api.MaxRxDepth, empty(), thousand),
		rep(0, 0, nested(api.MaxRxDepth, lit('a'), thousand)),
		nested(api.MaxRxDepth-3, rep(0, 0, nested(2, lit('a'), thousand)), thousand),
		nested(api.MaxRxDepth-3, cat(empty(), rep(0, 0, lit('a')), empty()), thousand),
	} {
		checkProgram(t, x, nil, []line{{op: api.OpMatch}})
	}
}

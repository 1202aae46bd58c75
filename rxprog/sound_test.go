package rxprog_test

import (
	"math"
	"slices"
	"testing"

	"weir/api"
	"weir/rxprog"
)

// whole: a sound program that has an instruction of each Op, and two groups.
func whole() api.Prog {
	return api.Prog{Start: 3, Groups: 2, Names: []string{"", "x"}, Insts: []api.Inst{
		{Op: api.OpMatch}, {Op: api.OpRune, Out: 2, Ranges: class('a', 'c', 'e', 'e').Ranges}, {Op: api.OpSplit, Out: 0, Alt: 10}, {Op: api.OpSave, Out: 4, Arg: 2}, {Op: api.OpBegin, Out: 5}, {Op: api.OpEnd, Out: 6}, {Op: api.OpLineBegin, Out: 7}, {Op: api.OpLineEnd, Out: 8}, {Op: api.OpWord, Out: 9}, {Op: api.OpJump, Out: 1}, {Op: api.OpFail}, {Op: api.OpWord, Out: 11, Arg: 1},
	}}
}

func checkSound(t *testing.T, p api.Prog, want bool, why string) {
	t.Helper()
	if soundByWords(p) != want {
		t.Fatalf("%s: by the words it is %v", why, !want)
	}
	if rxprog.Sound(p) != want {
		t.Errorf("%s: Sound = %v", why, !want)
	}
}

// P9.3: the program as a whole: instructions, Start, Groups, Names.
func TestSoundFrame(t *testing.T) {
	checkSound(t, whole(), true, "the whole program")
	checkSound(t, api.Prog{}, false, "nothing")
	checkSound(t, api.Prog{Insts: []api.Inst{}}, false, "no instruction")
	checkSound(t, api.Prog{Insts: []api.Inst{{Op: api.OpMatch}}}, true, "one instruction")
	for _, n := range []int{api.MaxInst - 1, api.MaxInst, api.MaxInst + 1, 3 * api.MaxInst} {
		checkSound(t, api.Prog{Insts: slices.Repeat([]api.Inst{{Op: api.OpMatch}}, n)}, n <= api.MaxInst, "many instructions")
		checkSound(t, api.Prog{Insts: slices.Repeat([]api.Inst{{Op: api.OpJump, Out: n - 1}}, n), Start: n - 1}, n <= api.MaxInst, "many jumps")
	}
	for _, start := range []int{math.MinInt, -1, 0, 1, 11, 12, 13, math.MaxInt} {
		p := whole()
		p.Start = start
		checkSound(t, p, 0 <= start && start < 12, "Start")
	}
	for groups := -2; groups < api.MaxRxGroups+3; groups++ {
		for names := max(0, groups-2); names < groups+3; names++ {
			p := api.Prog{Insts: []api.Inst{{Op: api.OpMatch}}, Groups: groups, Names: make([]string, names)}
			checkSound(t, p, 0 <= groups && groups <= api.MaxRxGroups && names == groups, "Groups and Names")
		}
	}
	for _, groups := range []int{math.MinInt, math.MaxInt, math.MaxInt / 2, math.MinInt / 2} {
		checkSound(t, api.Prog{Insts: []api.Inst{{Op: api.OpMatch}}, Groups: groups}, false, "Groups without measure")
	}
	p := whole()
	p.Names = []string{"\xff not a name", "x"}
	checkSound(t, p, true, "names of any text")
	p.Names = []string{"x", "x"}
	checkSound(t, p, true, "one name twice")
}

// P9.3: each instruction with each field changed alone.
func TestSoundFields(t *testing.T) {
	numbers := []int{math.MinInt, -100, -2, -1, 0, 1, 2, 3, 4, 5, 6, 7, 9, 10, 11, 12, 13, 100, 1 << 32, math.MaxInt}
	good, bad := 0, 0
	for n := range whole().Insts {
		for _, v := range numbers {
			for field := range 4 {
				p := whole()
				i := &p.Insts[n]
				*[]*int{&i.Op, &i.Out, &i.Alt, &i.Arg}[field] = v
				want := soundByWords(p)
				checkSound(t, p, want, "a field")
				if want {
					good++
				} else {
					bad++
				}
			}
		}
		for _, ends := range [][]rune{nil, {'a', 'a'}, {'a', 'b'}} {
			p := whole()
			p.Insts[n].Ranges = class(ends...).Ranges
			checkSound(t, p, (p.Insts[n].Op == api.OpRune) == (ends != nil), "ranges")
		}
		p := whole()
		p.Insts[n].Ranges = []api.RuneRange{}
		checkSound(t, p, p.Insts[n].Op != api.OpRune, "an empty list of ranges")
	}
	if good < 150 || bad < 500 {
		t.Errorf("%d are sound, %d aren't", good, bad)
	}
}

// P9.3: what each Op asks of its fields, rule by rule.
func TestSoundRules(t *testing.T) {
	of := func(i api.Inst) api.Prog {
		return api.Prog{Insts: []api.Inst{{Op: api.OpMatch}, i, {Op: api.OpFail}}, Groups: 1, Names: []string{""}}
	}
	a := class('a', 'a').Ranges
	for op := -1; op < 14; op++ {
		i := api.Inst{Op: op}
		if op == api.OpRune {
			i.Ranges = a
		}
		if op == api.OpSave {
			i.Arg = 2
		}
		known, ends := 1 <= op && op <= 11, op == api.OpMatch || op == api.OpFail
		checkSound(t, of(i), known, "an Op")
		for _, out := range []int{-1, 0, 1, 2, 3} {
			j := i
			j.Out = out
			checkSound(t, of(j), known && (out == 0 || !ends && 0 < out && out < 3), "Out")
			j = i
			j.Alt = out
			checkSound(t, of(j), known && (out == 0 || op == api.OpSplit && 0 < out && out < 3), "Alt")
		}
		for arg := -1; arg < 6; arg++ {
			j := i
			j.Arg = arg
			want := arg == 0 || arg == 1 && op == api.OpWord
			if op == api.OpSave {
				want = arg == 2 || arg == 3
			}
			checkSound(t, of(j), known && want, "Arg")
		}
	}
	for groups := range 4 {
		for arg := range 12 {
			p := api.Prog{Insts: []api.Inst{{Op: api.OpSave, Arg: arg}}, Groups: groups, Names: make([]string, groups)}
			checkSound(t, p, 2 <= arg && arg <= 2*groups+1, "a slot")
		}
	}
}

// P9.3: the ranges of an OpRune: they may touch, unlike a class's, and a single rune is fine.
func TestSoundRanges(t *testing.T) {
	for _, c := range []struct {
		want bool
		ends []rune
	}{
		{true, []rune{0, 0}}, {true, []rune{0, runesEnd}}, {true, []rune{runesEnd, runesEnd}}, {true, []rune{0xD800, 0xDFFF}}, {true, []rune{0xD900, 0xD900}},
		{true, []rune{1, 5, 6, 6}}, {true, []rune{1, 5, 7, 9}}, {true, []rune{1, 1, 2, 2, 3, 3}}, {true, []rune{0, 4, 5, runesEnd}},
		{false, nil}, {false, []rune{-1, 5}}, {false, []rune{-1, -1}}, {false, []rune{5, 4}}, {false, []rune{1, 0}}, {false, []rune{0, runesEnd + 1}}, {false, []rune{runesEnd + 1, runesEnd + 1}}, {false, []rune{5, runesEnd, runesEnd + 1, runesEnd + 1}},
		{false, []rune{1, 5, 5, 6}}, {false, []rune{1, 5, 4, 6}}, {false, []rune{1, 5, 1, 5}}, {false, []rune{6, 6, 1, 5}}, {false, []rune{1, 5, 7, 6}}, {false, []rune{1, 5, 7, 9, 9, 10}}, {false, []rune{1, 5, 7, 9, 2, 3}},
		{false, []rune{math.MinInt32, math.MaxInt32}}, {false, []rune{0, math.MaxInt32}}, {false, []rune{math.MinInt32, 0}}, {false, []rune{0, math.MaxInt32, math.MinInt32, 5}}, {false, []rune{5, math.MinInt32}}, {false, []rune{0, 1, 3, -5}}, {false, []rune{0, 1, -5, 3}},
	} {
		checkSound(t, api.Prog{Insts: []api.Inst{{Op: api.OpRune, Ranges: class(c.ends...).Ranges}}}, c.want, "a range")
		checkSound(t, api.Prog{Insts: []api.Inst{{Op: api.OpMatch}, {Op: api.OpRune, Ranges: class(c.ends...).Ranges}, {Op: api.OpFail}}}, c.want, "a range")
	}
}

// P9.3: circles may be sound, those that never take a rune too.
func TestSoundCircles(t *testing.T) {
	for _, insts := range [][]api.Inst{
		{{Op: api.OpJump}}, {{Op: api.OpSplit}}, {{Op: api.OpJump, Out: 1}, {Op: api.OpJump}}, {{Op: api.OpBegin}}, {{Op: api.OpRune, Ranges: class('a', 'a').Ranges}},
		{{Op: api.OpSplit, Out: 1, Alt: 2}, {Op: api.OpSplit, Out: 2, Alt: 0}, {Op: api.OpSplit, Out: 0, Alt: 1}},
	} {
		checkSound(t, api.Prog{Insts: insts}, true, "a circle")
	}
}

// P9.3: programs made at random, mostly right, one or two fields of them spoiled.
func TestSoundByWords(t *testing.T) {
	t.Parallel()
	r := someRand()
	seen := map[bool]int{}
	for range 60000 {
		n := 1 + r.IntN(5)
		p := api.Prog{Start: r.IntN(n), Groups: r.IntN(3)}
		p.Names = make([]string, p.Groups)
		for range n {
			i := api.Inst{Op: 1 + r.IntN(11), Out: r.IntN(n)}
			switch i.Op {
			case api.OpMatch, api.OpFail:
				i.Out = 0
			case api.OpRune:
				i.Ranges = class(rune(r.IntN(5)), rune(3+r.IntN(5)), rune(8+r.IntN(3)), rune(10+r.IntN(3))).Ranges[r.IntN(2):]
			case api.OpSplit:
				i.Alt = r.IntN(n)
			case api.OpSave:
				i.Arg = 2 + r.IntN(2*max(1, p.Groups))
			case api.OpWord:
				i.Arg = r.IntN(2)
			}
			p.Insts = append(p.Insts, i)
		}
		if r.IntN(2) == 0 {
			i := &p.Insts[r.IntN(n)]
			*[]*int{&i.Op, &i.Out, &i.Alt, &i.Arg, &p.Start, &p.Groups}[r.IntN(6)] = r.IntN(9) - 2
		}
		want := soundByWords(p)
		seen[want]++
		if rxprog.Sound(p) != want {
			t.Fatalf("Sound(%v) = %v", p, !want)
		}
	}
	if seen[true] < 10000 || seen[false] < 10000 {
		t.Errorf("%v", seen)
	}
}

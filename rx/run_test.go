package rx_test

import (
	"math"
	"math/rand/v2"
	"slices"
	"strings"
	"testing"
	"time"

	"weir/api"
	"weir/rx"
	"weir/rxprog"
)

// Programs, written short.

func prog(groups int, insts ...api.Inst) api.Prog {
	return api.Prog{Insts: insts, Groups: groups, Names: make([]string, groups)}
}

func match() api.Inst { return api.Inst{Op: api.OpMatch} }

func fail() api.Inst { return api.Inst{Op: api.OpFail} }

func take(r rune, out int) api.Inst { return takeOf(out, r, r) }

func takeOf(out int, ends ...rune) api.Inst {
	return api.Inst{Op: api.OpRune, Out: out, Ranges: ranges(ends...)}
}

func split(out, alt int) api.Inst { return api.Inst{Op: api.OpSplit, Out: out, Alt: alt} }

func save(slot, out int) api.Inst { return api.Inst{Op: api.OpSave, Arg: slot, Out: out} }

func jump(out int) api.Inst { return api.Inst{Op: api.OpJump, Out: out} }

// step: one of the instructions that ask for a place.
func step(op, out int) api.Inst { return api.Inst{Op: op, Out: out} }

func checkRun(t *testing.T, p api.Prog, s string, want ...int) {
	t.Helper()
	if got := rx.Run(p, s); !slices.Equal(got, want) {
		t.Errorf("Run(%v, %.100q) = %v, not %v", p.Insts[:min(len(p.Insts), 12)], s, got, want)
	}
}

// P10.1: the chapter's examples.
func TestRunExamples(t *testing.T) {
	checkRun(t, prog(0, split(0, 1), match()), "", 0, 0)
	checkRun(t, api.Prog{}, "")
	checkRun(t, api.Prog{Insts: []api.Inst{}}, "")
	checkRun(t, programOf(t, "(a|ab)(c|bcd)?"), "abcd", 0, 4, 0, 1, 1, 4)
	checkRun(t, programOf(t, "(a*?)(a*)"), "aa", 0, 2, 0, 0, 0, 2)
	checkRun(t, programOf(t, "(a)|b"), "b", 0, 1, -1, -1)
}

// good: a program that finds something in "a"; behind what it needs stands one instruction of each Op.
func good() api.Prog {
	return prog(2, save(2, 1), take('a', 2), save(3, 3), match(),
		fail(), takeOf(0, 'a', 'b', 'd', 'e'), split(4, 11), save(5, 0), step(api.OpBegin, 1), step(api.OpEnd, 2), step(api.OpLineBegin, 3), step(api.OpLineEnd, 4), step(api.OpWord, 5), api.Inst{Op: api.OpWord, Arg: 1, Out: 6}, jump(14))
}

// P10.1: a program that isn't sound finds nothing, for each of chapter 9's reasons, and though the search would never come to what is wrong.
func TestRunUnsound(t *testing.T) {
	checkRun(t, good(), "a", 0, 1, 0, 1, -1, -1)
	for i, spoil := range []func(p *api.Prog){
		func(p *api.Prog) { p.Insts = nil },
		func(p *api.Prog) { p.Insts = append(p.Insts, slices.Repeat([]api.Inst{fail()}, api.MaxInst)...) },
		func(p *api.Prog) { p.Start = -1 },
		func(p *api.Prog) { p.Start = len(p.Insts) },
		func(p *api.Prog) { p.Start = math.MinInt },
		func(p *api.Prog) { p.Groups, p.Names = -1, nil },
		func(p *api.Prog) { p.Groups, p.Names = api.MaxRxGroups+1, make([]string, api.MaxRxGroups+1) },
		func(p *api.Prog) { p.Groups = math.MaxInt },
		func(p *api.Prog) { p.Names = nil },
		func(p *api.Prog) { p.Names = p.Names[:1] },
		func(p *api.Prog) { p.Names = append(p.Names, "x") },
		func(p *api.Prog) { p.Insts[4].Op = 0 },
		func(p *api.Prog) { p.Insts[4].Op = 12 },
		func(p *api.Prog) { p.Insts[4].Op = -1 },
		func(p *api.Prog) { p.Insts[3].Out = 1 },
		func(p *api.Prog) { p.Insts[4].Out = 1 },
		func(p *api.Prog) { p.Insts[5].Out = 15 },
		func(p *api.Prog) { p.Insts[5].Out = -1 },
		func(p *api.Prog) { p.Insts[3].Alt = 1 },
		func(p *api.Prog) { p.Insts[14].Alt = 1 },
		func(p *api.Prog) { p.Insts[6].Alt = 15 },
		func(p *api.Prog) { p.Insts[6].Alt = -1 },
		func(p *api.Prog) { p.Insts[6].Out = 15 },
		func(p *api.Prog) { p.Insts[7].Arg = 1 },
		func(p *api.Prog) { p.Insts[7].Arg = 6 },
		func(p *api.Prog) { p.Insts[0].Arg = 0 },
		func(p *api.Prog) { p.Insts[12].Arg = 2 },
		func(p *api.Prog) { p.Insts[12].Arg = -1 },
		func(p *api.Prog) { p.Insts[14].Arg = 1 },
		func(p *api.Prog) { p.Insts[3].Ranges = ranges('a', 'a') },
		func(p *api.Prog) { p.Insts[5].Ranges = nil },
		func(p *api.Prog) { p.Insts[5].Ranges = ranges(-1, 'a') },
		func(p *api.Prog) { p.Insts[5].Ranges = ranges('b', 'a') },
		func(p *api.Prog) { p.Insts[5].Ranges = ranges('b', runesEnd+1) },
		func(p *api.Prog) { p.Insts[5].Ranges = ranges('c', 'd', 'a', 'b') },
		func(p *api.Prog) { p.Insts[1].Ranges = ranges('a', 'b', 'b', 'c') },
	} {
		p := good()
		spoil(&p)
		if rxprog.Sound(p) {
			t.Fatalf("reason %d: sound", i)
		}
		if l := rx.Run(p, "a"); len(l) != 0 {
			t.Errorf("reason %d: %v", i, l)
		}
	}
}

// P10.1: names of any text, and names that stand twice, are sound.
func TestRunNames(t *testing.T) {
	p := good()
	p.Names = []string{"\xff", "\xff"}
	checkRun(t, p, "a", 0, 1, 0, 1, -1, -1)
}

// P10.1: each field of each instruction changed alone.
func TestRunFields(t *testing.T) {
	numbers := []int{math.MinInt, -1, 0, 1, 2, 3, 4, 5, 6, 8, 11, 12, 14, 15, 1 << 32, math.MaxInt}
	found, none := 0, 0
	for n := range good().Insts {
		for _, v := range numbers {
			for field := range 4 {
				p := good()
				i := &p.Insts[n]
				*[]*int{&i.Op, &i.Out, &i.Alt, &i.Arg}[field] = v
				var want []int
				if rxprog.Sound(p) {
					want = findingByWords(p, "a")
				}
				checkRun(t, p, "a", want...)
				if want == nil {
					none++
				} else {
					found++
				}
			}
		}
	}
	if found < 100 || none < 300 {
		t.Errorf("%d find something, %d nothing", found, none)
	}
}

// P10.1: OpMatch, OpFail, OpJump and OpSplit by themselves; Start.
func TestRunPlainOps(t *testing.T) {
	checkRun(t, prog(0, match()), "", 0, 0)
	checkRun(t, prog(0, match()), "a")
	checkRun(t, prog(1, match()), "", 0, 0, -1, -1)
	checkRun(t, prog(100, match()), "", append([]int{0, 0}, slices.Repeat([]int{-1}, 200)...)...)
	checkRun(t, prog(0, fail()), "")
	checkRun(t, prog(0, jump(1), match()), "", 0, 0)
	checkRun(t, prog(0, jump(1), fail()), "")
	checkRun(t, prog(0, split(1, 2), fail(), match()), "", 0, 0)
	checkRun(t, prog(0, split(2, 1), fail(), match()), "", 0, 0)
	checkRun(t, prog(0, split(1, 1), match()), "", 0, 0)
	checkRun(t, prog(0, split(1, 1), fail()), "")
	p := prog(1, fail(), match(), save(3, 1), save(2, 2))
	p.Start = 3
	checkRun(t, p, "", 0, 0, 0, 0)
	p.Start = 1
	checkRun(t, p, "", 0, 0, -1, -1)
	p.Start = 0
	checkRun(t, p, "")
	p = prog(0, match(), match(), take('a', 1))
	p.Start = 2
	checkRun(t, p, "a", 0, 1)
	checkRun(t, p, "aa")
}

// P10.1: OpRune at both ends of its ranges, with runes of one to four bytes, touching ranges, and bytes at which no rune begins.
func TestRunRune(t *testing.T) {
	p := prog(0, takeOf(1, 'b', 'd', 'e', 'e', 'x', 'z', 'é', 0x7FF, 0xD000, 0xE000, 0xFFFD, 0xFFFD, 0x10000, 0x1F600, runesEnd, runesEnd), match())
	for _, r := range []rune{'b', 'c', 'd', 'e', 'x', 'y', 'z', 'é', 'ê', 0x7FF, 0xD000, 0xD7FF, 0xE000, 0xFFFD, 0x10000, '😀', runesEnd} {
		checkRun(t, p, string(r), 0, len(string(r)))
		checkRun(t, p, string(r)+string(r))
	}
	for _, s := range []string{"", "a", "f", "w", "{", "è", "\u0800", "\u07ff\xff", "\uCFFF", "\uE001", "\uFFFC", "\uFFFE", "\U0001F601", "\U0010FFFE", "\x00", "\xff", "\xc3", "\xa9", "\xed\xa0\x80", "\xf4\x90\x80\x80", "\xc1\xa2", "\xe0\x81\xa2", "\xf0\x9f\x98", "b\xff", "\xffb"} {
		checkRun(t, p, s)
	}
	p = prog(1, take(0xFFFD, 1), save(2, 2), take('é', 3), save(3, 4), match())
	checkRun(t, p, "\uFFFDé", 0, 5, 3, 5)
	checkRun(t, p, "\xffé")
	all := prog(0, split(1, 2), takeOf(0, 0, runesEnd), match())
	checkRun(t, all, "aé日😀\x00", 0, 11)
	for _, s := range []string{"\xff", "a\xff", "\xffa", "é\xa9", "\xed\xbf\xbf", "日\xe6"} {
		checkRun(t, all, s)
	}
}

// P10.1: a list of ranges beyond measure is looked through in no time.
func TestRunManyRanges(t *testing.T) {
	even := takeOf(0)
	for r := rune(0); r <= runesEnd; r += 2 {
		even.Ranges = append(even.Ranges, api.RuneRange{Lo: r, Hi: r})
	}
	p := prog(0, even, split(0, 2), match())
	p.Insts[0].Out = 1
	s := strings.Repeat("bdfhj\U0010FFFE\x00", 1<<12)
	checkRun(t, p, s, 0, len(s))
	checkRun(t, p, s+"a")
	checkRun(t, p, "\U0010FFFF")
}

// P10.1: each Op that asks for a place, at each place of many texts: where it is, slot 2 tells.
func TestRunPlaces(t *testing.T) {
	texts := append(textsOver("a\né_", 4), "", "0", "9", "A", "Z", "z", "/", ":", "@", "[", "^", "`", "{", "_ ", " _", "aZ", "\r\n", "\v", "日a", "a日", "x😀", "\n\n\n\n\n", "/0", "9:", "@A", "Z[", "`a", "z{")
	for _, i := range []api.Inst{step(api.OpBegin, 3), step(api.OpEnd, 3), step(api.OpLineBegin, 3), step(api.OpLineEnd, 3), step(api.OpWord, 3), {Op: api.OpWord, Out: 3, Arg: 1}, jump(3)} {
		found := 0
		for _, greedy := range []bool{true, false} {
			p := prog(1, split(1, 2), takeOf(0, 0, runesEnd), i, save(2, 4), split(5, 6), takeOf(4, 0, runesEnd), match())
			if !greedy {
				p.Insts[0] = split(2, 1)
			}
			for _, s := range texts {
				want := findingByWords(p, s)
				checkRun(t, p, s, want...)
				if want != nil {
					found++
				}
			}
		}
		if found < 20 {
			t.Errorf("Op %d: found in %d texts", i.Op, found)
		}
	}
	for _, c := range []struct {
		op, arg int
		s       string
		want    []int // the places of s where it goes on
	}{
		{api.OpBegin, 0, "a\nb", []int{0}}, {api.OpBegin, 0, "", []int{0}}, {api.OpEnd, 0, "a\n", []int{2}}, {api.OpEnd, 0, "", []int{0}},
		{api.OpLineBegin, 0, "a\n\nb", []int{0, 2, 3}}, {api.OpLineBegin, 0, "\n", []int{0, 1}}, {api.OpLineBegin, 0, "a\r", []int{0}}, {api.OpLineEnd, 0, "a\n\nb", []int{1, 2, 4}}, {api.OpLineEnd, 0, "\n", []int{0, 1}}, {api.OpLineEnd, 0, "\r", []int{1}},
		{api.OpWord, 0, "a b_é0", []int{0, 1, 2, 4, 6, 7}}, {api.OpWord, 1, "a b_é0", []int{3}}, {api.OpWord, 0, "", nil}, {api.OpWord, 1, "", []int{0}}, {api.OpWord, 0, "éé", nil}, {api.OpWord, 1, "éé", []int{0, 2, 4}},
	} {
		var got []int
		for at := range len(c.s) + 1 {
			if goesOn(api.Inst{Op: c.op, Arg: c.arg}, c.s, at) {
				got = append(got, at)
			}
		}
		if !slices.Equal(got, c.want) {
			t.Errorf("Op %d, Arg %d in %q: at %v, not %v", c.op, c.arg, c.s, got, c.want)
		}
	}
}

// goesOn: whether a program that takes the runes up to a place, then asks the instruction, then takes the rest, finds something.
func goesOn(i api.Inst, s string, at int) bool {
	var insts []api.Inst
	put := func(i api.Inst) {
		i.Out = len(insts) + 1
		insts = append(insts, i)
	}
	for place, r := range s {
		if place == at {
			put(i)
		}
		put(take(r, 0))
	}
	if at == len(s) {
		put(i)
	}
	asked := slices.ContainsFunc(insts, func(j api.Inst) bool { return j.Op == i.Op })
	return asked && len(rx.Run(prog(0, append(insts, match())...), s)) > 0
}

// P10.1: a slot gets back the value that it had, if what comes behind it fails: none at all, or an earlier one.
func TestRunSlotsComeBack(t *testing.T) {
	p := prog(1, split(1, 3), save(2, 2), fail(), match())
	checkRun(t, p, "", 0, 0, -1, -1)
	p = prog(1, save(2, 1), take('a', 2), split(3, 5), save(2, 4), take('b', 6), take('c', 6), match())
	checkRun(t, p, "ab", 0, 2, 1, -1)
	checkRun(t, p, "ac", 0, 2, 0, -1)
	p = prog(2, split(1, 6), save(2, 2), save(3, 3), save(2, 4), save(4, 5), fail(), save(5, 7), match())
	checkRun(t, p, "", 0, 0, -1, -1, -1, 0)
	// Two tries that fail, one inside the other: each takes back its own.
	p = prog(1, save(2, 1), takeOf(2, 'a', 'z'), split(3, 9), save(2, 4), takeOf(5, 'a', 'z'), split(6, 8), save(2, 7), fail(), save(3, 10), takeOf(10, 'a', 'z'), match())
	checkRun(t, p, "xy", 0, 2, 1, 2)
	p.Insts[8] = fail()
	checkRun(t, p, "xy", 0, 2, 0, -1)
	// One slot twice on a way: the last value holds.
	checkRun(t, prog(1, save(2, 1), take('a', 2), save(2, 3), save(2, 4), take('b', 5), save(2, 6), match()), "ab", 0, 2, 2, -1)
	// The ends of a group may be noted in any order, or one alone.
	checkRun(t, prog(1, save(3, 1), take('a', 2), save(2, 3), match()), "a", 0, 1, 1, 0)
	checkRun(t, prog(1, save(3, 1), match()), "", 0, 0, -1, 0)
	// The greatest slot of the most groups.
	p = prog(100, take('a', 1), save(201, 2), match())
	checkRun(t, p, "a", append(append([]int{0, 1}, slices.Repeat([]int{-1}, 199)...), 1)...)
}

// P10.1: a point that is tried a second time fails: whoever goes round comes back empty-handed, with the slots as they were.
func TestRunCircles(t *testing.T) {
	for _, p := range []api.Prog{
		prog(0, jump(0)), prog(0, split(0, 0)), prog(0, jump(1), jump(0)), prog(0, step(api.OpBegin, 0)), prog(1, save(2, 0)), prog(0, take('a', 0)), prog(0, step(api.OpEnd, 0)), prog(0, step(api.OpLineBegin, 0)), prog(0, step(api.OpLineEnd, 0)), prog(0, api.Inst{Op: api.OpWord, Arg: 1}),
		prog(0, split(1, 2), split(2, 0), split(0, 1)),
	} {
		for _, s := range []string{"", "a", "aaaa", "\n", "b"} {
			checkRun(t, p, s)
		}
	}
	checkRun(t, prog(0, split(0, 1), match()), "", 0, 0)
	checkRun(t, prog(0, split(1, 0), match()), "", 0, 0)
	checkRun(t, prog(0, split(0, 1), match()), "a")
	checkRun(t, prog(1, split(1, 2), save(2, 0), match()), "", 0, 0, -1, -1)
	checkRun(t, prog(1, split(1, 3), save(2, 2), jump(0), save(3, 4), match()), "", 0, 0, -1, 0)
	checkRun(t, prog(1, split(1, 3), save(2, 2), take('a', 0), save(3, 4), match()), "aaa", 0, 3, 2, 3)
	// The way round is tried first, and at the next place it is new again.
	p := prog(2, split(1, 3), save(2, 2), split(0, 5), save(4, 4), match(), take('a', 0))
	checkRun(t, p, "aa", 0, 2, 1, -1, 2, -1)
	// Two ways to one point: the first one's slots hold.
	p = prog(2, split(1, 2), save(2, 3), save(4, 3), take('a', 4), match())
	checkRun(t, p, "a", 0, 1, 0, -1, -1, -1)
	p.Insts[0] = split(2, 1)
	checkRun(t, p, "a", 0, 1, -1, -1, 0, -1)
	// The point behind both fails the first time: the second way is no better, and a third one goes on.
	p = prog(2, split(1, 2), save(2, 4), split(3, 5), save(3, 4), fail(), save(4, 6), match())
	checkRun(t, p, "", 0, 0, -1, -1, 0, -1)
}

// P10.1: rows of instructions that each go round by themselves, over texts of several places: no point of them all is tried twice.
func TestRunManyCircles(t *testing.T) {
	for _, n := range []int{1, 62, 63, 64, 65, 66, 129, 500} {
		var insts []api.Inst
		for k := range n {
			insts = append(insts, split(k, k+1))
		}
		p := prog(0, append(insts, split(n+1, n+2), take('a', 0), match())...)
		for _, length := range []int{0, 1, 2, 62, 63, 64, 65, 127, 300} {
			s := strings.Repeat("a", length)
			checkRun(t, p, s, 0, length)
			checkRun(t, p, s+"b")
		}
	}
}

// P10.1: of all ways the first one counts, greedy and lazy.
func TestRunFirstWay(t *testing.T) {
	for _, c := range []struct {
		pattern, s string
		want       []int
	}{
		{"(a*)(a*)", "aa", []int{0, 2, 0, 2, 2, 2}}, {"(a*?)(a*?)", "aa", []int{0, 2, 0, 0, 0, 2}}, {"(a+?)(a*)", "aaa", []int{0, 3, 0, 1, 1, 3}}, {"(a??)(a?)", "a", []int{0, 1, 0, 0, 0, 1}}, {"(a?)(a?)", "a", []int{0, 1, 0, 1, 1, 1}},
		{"(a{1,2})(a{1,2})", "aaa", []int{0, 3, 0, 2, 2, 3}}, {"(a{1,2}?)(a{1,2}?)", "aaa", []int{0, 3, 0, 1, 1, 3}}, {"(ab|a)(bc|c)?", "abc", []int{0, 3, 0, 2, 2, 3}}, {"(a|ab)(c|bcd)?", "abc", []int{0, 3, 0, 2, 2, 3}}, {"(a|ab)(c|bcd)?", "a", []int{0, 1, 0, 1, -1, -1}},
		{"(?:(a)|b)*", "ab", []int{0, 2, 0, 1}}, {"(?:(a)|(b))*", "abab", []int{0, 4, 2, 3, 3, 4}}, {"(|a)*", "aa", []int{0, 2, 1, 2}}, {"(|a)+", "aa", []int{0, 2, 1, 2}}, {"(a|)*", "aa", []int{0, 2, 1, 2}}, {"(a*)*", "aaa", []int{0, 3, 0, 3}}, {"(a*)+", "", []int{0, 0, 0, 0}}, {"(a*)*", "", []int{0, 0, -1, -1}},
		{"((a)|b)?(.*)", "bé", []int{0, 3, 0, 1, -1, -1, 1, 3}}, {"(.)(.)(.)(.)", "aé日😀", []int{0, 10, 0, 1, 1, 3, 3, 6, 6, 10}}, {"(?s)(.*)(\\n)(.*)", "a\n\nb", []int{0, 4, 0, 2, 2, 3, 3, 4}}, {"(?s)(.*?)(\\n)(.*)", "a\n\nb", []int{0, 4, 0, 1, 1, 2, 2, 4}},
		{"()", "", []int{0, 0, 0, 0}}, {"(?:(a)(b)?)*", "aba", []int{0, 3, 2, 3, 1, 2}}, {"(\\b)a(\\b)", "a", []int{0, 1, 0, 0, 1, 1}},
	} {
		p := programOf(t, c.pattern)
		if by := findingByWords(p, c.s); !slices.Equal(by, c.want) {
			t.Fatalf("%q, %q: by the words %v", c.pattern, c.s, by)
		}
		checkRun(t, p, c.s, c.want...)
	}
}

// someProgram: a sound one, with every Op in it sooner or later.
func someProgram(r *rand.Rand) api.Prog {
	n := 1 + r.IntN(12)
	groups := r.IntN(3)
	p := prog(groups)
	p.Start = r.IntN(n)
	for k := range n {
		i := api.Inst{Op: []int{1, 1, 1, 2, 2, 2, 2, 2, 3, 3, 3, 3, 3, 4, 4, 4, 4, 5, 6, 7, 8, 9, 10, 11}[r.IntN(24)], Out: (k + 1) % n}
		if r.IntN(3) == 0 {
			i.Out = r.IntN(n)
		}
		switch i.Op {
		case api.OpMatch, api.OpFail:
			i.Out = 0
		case api.OpRune:
			i.Ranges = [][]api.RuneRange{ranges('a', 'a'), ranges('b', 'b'), ranges('a', 'b'), ranges('\n', '\n'), ranges('é', 'é'), ranges(0, runesEnd), ranges('a', 'a', 'b', 'b', 'é', 'é')}[r.IntN(7)]
		case api.OpSplit:
			i.Alt = r.IntN(n)
		case api.OpSave:
			i.Arg = 2 + r.IntN(max(1, 2*groups))
			if groups == 0 {
				i.Op, i.Arg = api.OpJump, 0
			}
		case api.OpWord:
			i.Arg = r.IntN(2)
		}
		p.Insts = append(p.Insts, i)
	}
	return p
}

// P10.1: programs made at random, over texts and other bytes.
func TestRunByWords(t *testing.T) {
	t.Parallel()
	texts := append(textsOver("ab\né", 2), textsOver("ab", 4)...)
	texts = append(texts, "aéb\na", "\xff", "a\xff", "\xc3", "é\xa9", "ab\xffab", "aaaaaaaa")
	r := someRand()
	found, told := 0, 0
	for range 40000 {
		p := someProgram(r)
		if !rxprog.Sound(p) {
			t.Fatalf("%v isn't sound", p)
		}
		for _, s := range texts {
			want := findingByWords(p, s)
			if got := rx.Run(p, s); !slices.Equal(got, want) {
				t.Fatalf("Run(%v, %q) = %v, not %v", p, s, got, want)
			}
			if want != nil {
				found++
			}
			if slices.ContainsFunc(want[min(2, len(want)):], func(n int) bool { return n > 0 }) {
				told++
			}
		}
	}
	if found < 40000 || told < 3000 {
		t.Errorf("%d findings, %d with slots that tell something", found, told)
	}
}

// P10.1: compiled programs, over all short texts.
func TestRunCompiledByWords(t *testing.T) {
	t.Parallel()
	texts := append(textsOver("aé\n", 3), textsOver("ab", 5)...)
	texts = append(texts, "\xff", "a\xff", "a_b", "\xc3a")
	r := someRand()
	all := smallTrees()
	for i := range 4000 {
		all = append(all, someTree(r, 2+i%3))
	}
	found := 0
	for _, x := range all {
		if rxprog.Size(x) > 200 {
			continue
		}
		p := program(t, x)
		for _, s := range texts {
			want := findingByWords(p, s)
			if got := rx.Run(p, s); !slices.Equal(got, want) {
				t.Fatalf("%s in %q: %v, not %v", told(x), s, got, want)
			}
			if want != nil {
				found++
			}
		}
	}
	if found < 20000 {
		t.Errorf("%d findings", found)
	}
}

// P10.1, and P1, rule 1: long texts, great programs, and both at one time come to an end, and soon.
func TestRunGreat(t *testing.T) {
	t.Parallel()
	begin := time.Now()
	long := strings.Repeat("ab", 1<<18)
	checkRun(t, programOf(t, "(?:(a)|(b))*"), long, 0, 1<<19, 1<<19-2, 1<<19-1, 1<<19-1, 1<<19)
	checkRun(t, programOf(t, "(?:(a)|(b))*"), long+"c")
	checkRun(t, programOf(t, "((a|b|ab)*)*c"), long)
	checkRun(t, programOf(t, "(?s)(.*)(.*)(.*)(.*)c"), long)
	as := strings.Repeat("a", 1000)
	checkRun(t, programOf(t, "(?:a?){1000}a{1000}"), as, 0, 1000)
	checkRun(t, programOf(t, "(?:a?){1000}a{1000}"), as+as, 0, 2000)
	checkRun(t, programOf(t, "(?:a?){1000}a{1000}"), as+as+"a")
	checkRun(t, programOf(t, "(a+a+)+b"), strings.Repeat(as, 20))
	checkRun(t, programOf(t, "(?:(?:(?:a?)*)*)*b"), strings.Repeat(as, 20))
	checkRun(t, programOf(t, ".*(?:a?){1000}"), strings.Repeat("b", 1<<20), 0, 1<<20)
	// Rings of MaxInst instructions, which a search goes round once at each place.
	for _, i := range []api.Inst{jump(0), split(0, 0), save(2, 0), step(api.OpLineBegin, 0), step(api.OpBegin, 0)} {
		p := prog(1, slices.Repeat([]api.Inst{i}, api.MaxInst)...)
		for n := range p.Insts {
			p.Insts[n].Out = (n + 1) % api.MaxInst
			if i.Op == api.OpSplit {
				p.Insts[n].Alt = (n + api.MaxInst - 1) % api.MaxInst
			}
		}
		checkRun(t, p, "")
		checkRun(t, p, long)
		p.Insts[0] = match()
		p.Start = 1
		checkRun(t, p, long)
		if i.Op != api.OpSave {
			checkRun(t, p, "", 0, 0, -1, -1)
		}
	}
	if took := time.Since(begin); took > 2*time.Minute {
		t.Errorf("it took %v", took)
	}
}

// P10.1: every instruction is tried at every place of a text.
func TestRunAllPoints(t *testing.T) {
	t.Parallel()
	const insts = 2000
	p := prog(1)
	for k := range insts - 2 { // a row of splits, each to the next or to the rune
		p.Insts = append(p.Insts, split(k+1, insts-2))
	}
	p.Insts = append(p.Insts, take('a', 0), match())
	p.Insts[insts-3] = save(2, insts-2)
	s := strings.Repeat("a", 3000)
	checkRun(t, p, s)
	p.Insts[7].Alt = insts - 1
	checkRun(t, p, s, 0, 3000, 2999, -1)
}

package rxprog_test

import (
	"fmt"
	"math/big"
	"slices"
	"strings"
	"unicode/utf8"

	"weir/api"
)

// The chapter's words, a second time and slowly.

// matches: whether a valid tree matches a text whole.
func matches(x api.Rx, s string) bool {
	from := make([]bool, len(s)+1)
	from[0] = true
	return behind(x, s, from)[len(s)]
}

// behind: the places up to which a node matches from one of these on.
func behind(x api.Rx, s string, from []bool) []bool {
	out := make([]bool, len(s)+1)
	switch x.Kind {
	case api.RxCat:
		out = from
		for _, kid := range x.Kids {
			out = behind(kid, s, out)
		}
	case api.RxAlt:
		for _, kid := range x.Kids {
			mark(out, behind(kid, s, from))
		}
	case api.RxGroup:
		out = behind(x.Kids[0], s, from)
	case api.RxRepeat:
		most := x.Max
		if most == -1 {
			most = x.Min + len(s) + 1 // of more times than there are places one at least moved on nowhere
		}
		for k := range most + 1 {
			if k >= x.Min {
				mark(out, from)
			}
			from = behind(x.Kids[0], s, from)
		}
	default:
		for i := range from {
			if from[i] {
				if j := leafEnd(x, s, i); j >= 0 {
					out[j] = true
				}
			}
		}
	}
	return out
}

func mark(out, more []bool) {
	for i := range more {
		out[i] = out[i] || more[i]
	}
}

// leafEnd: the place up to which a node without kids matches from i on; -1 if it doesn't.
func leafEnd(x api.Rx, s string, i int) int {
	r, width := utf8.DecodeRuneInString(s[i:])
	ok := false
	switch x.Kind {
	case api.RxEmpty:
		return i
	case api.RxLit:
		if width > 0 && r == x.R {
			return i + width
		}
	case api.RxClass:
		if width > 0 && slices.ContainsFunc(x.Ranges, func(g api.RuneRange) bool { return g.Lo <= r && r <= g.Hi }) {
			return i + width
		}
	case api.RxBegin:
		ok = i == 0
	case api.RxEnd:
		ok = i == len(s)
	case api.RxLineBegin:
		ok = i == 0 || s[i-1] == 10
	case api.RxLineEnd:
		ok = i == len(s) || s[i] == 10
	case api.RxWord:
		ok = isEdge(s, i)
	case api.RxNotWord:
		ok = !isEdge(s, i)
	}
	if ok {
		return i
	}
	return -1
}

// isEdge: whether of the rune ahead of i and the one at i just one is a word's.
func isEdge(s string, i int) bool {
	ahead, n := utf8.DecodeLastRuneInString(s[:i])
	at, m := utf8.DecodeRuneInString(s[i:])
	return (n > 0 && isWordRune(ahead)) != (m > 0 && isWordRune(at))
}

func isWordRune(r rune) bool {
	return strings.ContainsRune("0123456789ABCDEFGHIJKLMNOPQRSTUVWXYZabcdefghijklmnopqrstuvwxyz_", r)
}

// takes: whether there is a way through a sound program for a text.
func takes(p api.Prog, s string) bool {
	type point struct{ inst, at int }
	seen := map[point]bool{}
	work := []point{{p.Start, 0}}
	for len(work) > 0 {
		here := work[len(work)-1]
		work = work[:len(work)-1]
		if seen[here] {
			continue
		}
		seen[here] = true
		i := p.Insts[here.inst]
		if i.Op == api.OpMatch && here.at == len(s) {
			return true
		}
		if to := goesOn(i, s, here.at); to >= 0 {
			work = append(work, point{i.Out, to})
			if i.Op == api.OpSplit {
				work = append(work, point{i.Alt, to})
			}
		}
	}
	return false
}

// goesOn: the place at which the way goes on behind an instruction; -1 if it goes nowhere.
func goesOn(i api.Inst, s string, at int) int {
	switch i.Op {
	case api.OpRune:
		return leafEnd(api.Rx{Kind: api.RxClass, Ranges: i.Ranges}, s, at)
	case api.OpBegin:
		return leafEnd(of(api.RxBegin), s, at)
	case api.OpEnd:
		return leafEnd(of(api.RxEnd), s, at)
	case api.OpLineBegin:
		return leafEnd(of(api.RxLineBegin), s, at)
	case api.OpLineEnd:
		return leafEnd(of(api.RxLineEnd), s, at)
	case api.OpWord:
		return leafEnd(of(api.RxWord+i.Arg), s, at)
	case api.OpMatch, api.OpFail:
		return -1
	}
	return at
}

// countOf: how many instructions the code of a valid node has, however many they are.
func countOf(x api.Rx) *big.Int {
	sum := new(big.Int)
	for _, kid := range x.Kids {
		sum.Add(sum, countOf(kid))
	}
	times := func(n int, v *big.Int) *big.Int { return new(big.Int).Mul(big.NewInt(int64(n)), v) }
	plus := func(v *big.Int, n int) *big.Int { return new(big.Int).Add(v, big.NewInt(int64(n))) }
	switch x.Kind {
	case api.RxEmpty, api.RxCat:
		return sum
	case api.RxAlt:
		return plus(sum, 2*len(x.Kids)-2)
	case api.RxGroup:
		return plus(sum, 2)
	case api.RxRepeat:
		first := times(x.Min, sum)
		if x.Max == -1 {
			return plus(first.Add(first, sum), 2)
		}
		return first.Add(first, times(x.Max-x.Min, plus(sum, 1)))
	}
	return big.NewInt(1)
}

// sizeByWords: what Size has to answer of a valid tree.
func sizeByWords(x api.Rx) int {
	n := countOf(x)
	n.Add(n, big.NewInt(1))
	if n.Cmp(big.NewInt(api.MaxInst)) > 0 {
		return api.MaxInst + 1
	}
	return int(n.Int64())
}

// An assembler writes code whose places are labels till all of it is written.
type assembler struct {
	insts  []api.Inst // Out and Alt are labels
	labels []int      // the places of the labels
}

func (a *assembler) label() int {
	a.labels = append(a.labels, -1)
	return len(a.labels) - 1
}

func (a *assembler) here(label int) { a.labels[label] = len(a.insts) }

// put writes an instruction that goes on at the place behind it.
func (a *assembler) put(i api.Inst) {
	i.Out = a.label()
	a.insts = append(a.insts, i)
	a.here(i.Out)
}

// fork writes an OpSplit that goes on behind it or at the label.
func (a *assembler) fork(label int, otherWay bool) {
	a.put(api.Inst{Op: api.OpSplit, Alt: label})
	if otherWay {
		last := &a.insts[len(a.insts)-1]
		last.Out, last.Alt = last.Alt, last.Out
	}
}

func (a *assembler) jump(label int) {
	a.insts = append(a.insts, api.Inst{Op: api.OpJump, Out: label})
}

func (a *assembler) node(x api.Rx) {
	end := a.label()
	switch x.Kind {
	case api.RxLit:
		a.put(api.Inst{Op: api.OpRune, Ranges: []api.RuneRange{{Lo: x.R, Hi: x.R}}})
	case api.RxClass:
		if len(x.Ranges) == 0 {
			a.insts = append(a.insts, api.Inst{Op: api.OpFail})
		} else {
			a.put(api.Inst{Op: api.OpRune, Ranges: x.Ranges})
		}
	case api.RxBegin, api.RxEnd, api.RxLineBegin, api.RxLineEnd:
		a.put(api.Inst{Op: x.Kind - api.RxBegin + api.OpBegin})
	case api.RxWord, api.RxNotWord:
		a.put(api.Inst{Op: api.OpWord, Arg: x.Kind - api.RxWord})
	case api.RxCat:
		for _, kid := range x.Kids {
			a.node(kid)
		}
	case api.RxAlt:
		for i, kid := range x.Kids {
			if i == len(x.Kids)-1 {
				a.node(kid)
				break
			}
			next := a.label()
			a.fork(next, false)
			a.node(kid)
			a.jump(end)
			a.here(next)
		}
	case api.RxGroup:
		a.put(api.Inst{Op: api.OpSave, Arg: 2 * x.Cap})
		a.node(x.Kids[0])
		a.put(api.Inst{Op: api.OpSave, Arg: 2*x.Cap + 1})
	case api.RxRepeat:
		a.repeat(x, end)
	}
	a.here(end)
}

func (a *assembler) repeat(x api.Rx, end int) {
	for k := 0; k < x.Min; k++ {
		a.node(x.Kids[0])
	}
	for k := x.Min; k < x.Max; k++ {
		a.fork(end, x.Lazy)
		a.node(x.Kids[0])
	}
	if x.Max == -1 {
		again := a.label()
		a.here(again)
		a.fork(end, x.Lazy)
		a.node(x.Kids[0])
		a.jump(again)
	}
}

// codeByWords: the instructions that Compile has to answer.
func codeByWords(x api.Rx) []api.Inst {
	var a assembler
	a.node(x)
	for n := range a.insts {
		i := &a.insts[n]
		if i.Op != api.OpFail {
			i.Out = a.labels[i.Out]
		}
		if i.Op == api.OpSplit {
			i.Alt = a.labels[i.Alt]
		}
	}
	return append(a.insts, api.Inst{Op: api.OpMatch})
}

func sameInst(a, b api.Inst) bool {
	return a.Op == b.Op && a.Out == b.Out && a.Alt == b.Alt && a.Arg == b.Arg && slices.Equal(a.Ranges, b.Ranges)
}

// namesOf: the groups' names in the order of the tree.
func namesOf(x api.Rx) []string {
	var out []string
	if x.Kind == api.RxGroup {
		out = append(out, x.Name)
	}
	for _, kid := range x.Kids {
		out = append(out, namesOf(kid)...)
	}
	return out
}

// soundByWords: what Sound has to answer.
func soundByWords(p api.Prog) bool {
	n := len(p.Insts)
	place := func(i int) bool { return i >= 0 && i <= n-1 }
	if n == 0 || n > 10000 || !place(p.Start) || p.Groups < 0 || p.Groups > 100 || len(p.Names) != p.Groups {
		return false
	}
	for _, i := range p.Insts {
		outOK, altOK, argOK, rangesOK := place(i.Out), i.Alt == 0, i.Arg == 0, len(i.Ranges) == 0
		switch i.Op {
		case 1, 11:
			outOK = i.Out == 0
		case 2:
			rangesOK = len(i.Ranges) != 0
			for k, g := range i.Ranges {
				rangesOK = rangesOK && g.Lo >= 0 && g.Lo <= g.Hi && g.Hi <= 0x10FFFF && (k == 0 || g.Lo > i.Ranges[k-1].Hi)
			}
		case 3:
			altOK = place(i.Alt)
		case 4:
			argOK = i.Arg >= 2 && i.Arg <= 2*p.Groups+1
		case 9:
			argOK = i.Arg == 0 || i.Arg == 1
		case 5, 6, 7, 8, 10:
		default:
			return false
		}
		if !outOK || !altOK || !argOK || !rangesOK {
			return false
		}
	}
	return true
}

// prefixByWords: the pair of a valid node, its text as runes.
func prefixByWords(x api.Rx) ([]rune, bool) {
	switch x.Kind {
	case api.RxLit:
		if x.R >= 0xD800 && x.R <= 0xDFFF {
			return nil, false
		}
		return []rune{x.R}, true
	case api.RxClass:
		return nil, false
	case api.RxGroup:
		return prefixByWords(x.Kids[0])
	case api.RxCat:
		var out []rune
		for _, kid := range x.Kids {
			text, exact := prefixByWords(kid)
			out = append(out, text...)
			if !exact {
				return out, false
			}
		}
		return out, true
	case api.RxAlt:
		return prefixOfAll(x.Kids)
	case api.RxRepeat:
		if x.Max == 0 {
			return nil, true
		}
		text, exact := prefixByWords(x.Kids[0])
		if x.Min == 0 {
			return nil, exact && len(text) == 0
		}
		if !exact {
			return text, false
		}
		return slices.Repeat(text, x.Min), x.Max == x.Min || len(text) == 0
	}
	return nil, true
}

func prefixOfAll(kids []api.Rx) ([]rune, bool) {
	var texts [][]rune
	all := true
	for _, kid := range kids {
		text, exact := prefixByWords(kid)
		texts = append(texts, text)
		all = all && exact
	}
	for n := len(texts[0]); ; n-- {
		longer := func(text []rune) bool { return len(text) > n }
		other := func(text []rune) bool { return len(text) < n || !slices.Equal(text[:n], texts[0][:n]) }
		if !slices.ContainsFunc(texts, other) {
			return texts[0][:n], all && !slices.ContainsFunc(texts, longer)
		}
	}
}

// A walker goes through a program rune by rune, at all the instructions that it can be at.
type walker struct {
	insts []api.Inst
	steps map[string][]stride
	ends  map[string]bool // can it end there?
}

// A stride: each rune from lo to hi leads to the state.
type stride struct {
	lo, hi rune
	to     string
}

// state: the places of OpRune and OpMatch that are reached from these without a rune, as a text.
func (w *walker) state(from []int) (string, []int) {
	seen := map[int]bool{}
	for len(from) > 0 {
		at := from[0]
		from = from[1:]
		if seen[at] {
			continue
		}
		seen[at] = true
		switch i := w.insts[at]; i.Op {
		case api.OpSplit:
			from = append(from, i.Out, i.Alt)
		case api.OpSave, api.OpJump:
			from = append(from, i.Out)
		}
	}
	var out []int
	for at := range seen {
		if op := w.insts[at].Op; op == api.OpRune || op == api.OpMatch {
			out = append(out, at)
		}
	}
	slices.Sort(out)
	return fmt.Sprint(out), out
}

// explore finds all states; false if there are too many of them.
func (w *walker) explore(from []int) bool {
	name, at := w.state(from)
	if w.steps[name] != nil {
		return true
	}
	w.steps[name] = []stride{}
	if len(w.steps) > 300 {
		return false
	}
	cuts := []rune{0, 0xD800, 0xE000, runesEnd + 1}
	for _, n := range at {
		w.ends[name] = w.ends[name] || w.insts[n].Op == api.OpMatch
		for _, g := range w.insts[n].Ranges {
			cuts = append(cuts, g.Lo, g.Hi+1)
		}
	}
	slices.Sort(cuts)
	cuts = slices.Compact(cuts)
	for k, lo := range cuts[:len(cuts)-1] {
		var next []int
		for _, n := range at {
			if slices.ContainsFunc(w.insts[n].Ranges, func(g api.RuneRange) bool { return g.Lo <= lo && lo <= g.Hi }) {
				next = append(next, w.insts[n].Out)
			}
		}
		if len(next) == 0 || 0xD800 <= lo && lo <= 0xDFFF {
			continue
		}
		to, _ := w.state(next)
		w.steps[name] = append(w.steps[name], stride{lo, cuts[k+1] - 1, to})
		if !w.explore(next) {
			return false
		}
	}
	return true
}

// living: the states from which an end is reached.
func (w *walker) living() map[string]bool {
	out := map[string]bool{}
	for more := true; more; {
		more = false
		for name, steps := range w.steps {
			lives := w.ends[name] || slices.ContainsFunc(steps, func(s stride) bool { return out[s.to] })
			if lives && !out[name] {
				out[name], more = true, true
			}
		}
	}
	return out
}

// circles: whether a way through living states comes back to where it was.
func (w *walker) circles(name string, living map[string]bool, open map[string]int) bool {
	if open[name] > 0 {
		return open[name] == 1
	}
	open[name] = 1
	for _, s := range w.steps[name] {
		if living[s.to] && w.circles(s.to, living, open) {
			return true
		}
	}
	open[name] = 2
	return false
}

// list: the texts that lead from a state to an end, up to one too many.
func (w *walker) list(out []string, name, text string, living map[string]bool) []string {
	if w.ends[name] {
		out = append(out, text)
	}
	for _, s := range w.steps[name] {
		for r := s.lo; r <= s.hi && living[s.to] && len(out) <= api.MaxWords; r++ {
			out = w.list(out, s.to, text+string(r), living)
		}
	}
	return out
}

// listByWords: what Words has to answer of a valid tree without places whose size is at most MaxInst; known is false if that would take too long to find out.
func listByWords(x api.Rx) (words []string, ok, known bool) {
	w := &walker{insts: codeByWords(x), steps: map[string][]stride{}, ends: map[string]bool{}}
	if !w.explore([]int{0}) {
		return nil, false, false
	}
	start, _ := w.state([]int{0})
	living := w.living()
	if w.circles(start, living, map[string]int{}) {
		return nil, false, true
	}
	words = w.list(nil, start, "", living)
	if len(words) > api.MaxWords {
		return nil, false, true
	}
	return words, true, true
}

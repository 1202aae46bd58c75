package rx_test

import (
	"fmt"
	"math"
	"slices"
	"strings"
	"sync"
	"testing"
	"unsafe"

	"weir/api"
	"weir/rx"
)

// patterns: some that are taken, some that aren't.
func patterns() []string {
	return []string{"", "a", "abc", "(a)|b", "(?P<x>.)(.)", "(?P<name_of_it>a*)(?P<other>[bc]|é)*", ".*", "(?s).*", "(|a)*b?", "^a$|\\b.", "(a|ab)(c|bcd)?", "(", "*", "\xff", "[a", "(?:a{1000}){1000}", "a{1000}", "[^\\x{0}-\\x{10ffff}]"}
}

// askRegex asks all that a pattern's regex answers about some texts.
func askRegex(pattern string) string {
	r, e := rx.Compile(pattern)
	out := fmt.Sprint(r != nil, e, r.Count())
	return out + toldRegex(r)
}

func toldRegex(r *rx.Regex) string {
	out := fmt.Sprintf("%q", r.Pattern())
	for i := -1; i < r.Count()+2; i++ {
		out += fmt.Sprintf(" %q", r.Name(i))
	}
	for _, s := range []string{"", "a", "ab", "abcd", "aéb", "\xff", "a\n", strings.Repeat("a", 1000)} {
		groups := r.Groups(s)
		text, ok := r.Replace(s, "$1${x}$$")
		out += fmt.Sprintf(" %v %v %q %v %q", r.Match(s), groups, text, ok, r.Expand("<$0$1$2$x>", s, groups))
	}
	return out
}

// P1, rule 1: no call panics, and each ends, whatever bytes it is given.
func TestTotalBytes(t *testing.T) {
	t.Parallel()
	r := someRand()
	syntax := `\.+*?()|[]{}^$-,:=!<>P01aidbBwmsUQEx` + "\n\xff\xc3\xa9"
	taken := 0
	for range 30000 {
		var s strings.Builder
		for range r.IntN(12) {
			s.WriteByte(syntax[r.IntN(len(syntax))])
		}
		regex, e := rx.Compile(s.String())
		if (regex == nil) != (e != api.OK) {
			t.Fatalf("Compile(%q): %v, %d", s.String(), regex, e)
		}
		if regex == nil {
			continue
		}
		taken++
		groups := regex.Groups(s.String())
		if regex.Match(s.String()) != (len(groups) > 0) || len(groups) > 0 && len(groups) != 2*regex.Count()+2 {
			t.Fatalf("%q over itself: %v", s.String(), groups)
		}
		regex.Replace("a", s.String())
	}
	if taken < 3000 {
		t.Errorf("%d patterns are taken", taken)
	}
	a := compiled(t, "(a)")
	for _, n := range []int{math.MinInt, -1, 0, 1, 2, math.MaxInt} {
		for _, m := range []int{math.MinInt, -1, 0, 1, 2, math.MaxInt} {
			a.Expand("$0$1$2", "a", []int{n, m, m, n, n})
		}
		a.Name(n)
	}
	long := strings.Repeat("${a-$ ", 1<<20)
	if got := a.Expand(long, "", nil); got != long {
		t.Error("a long template without names")
	}
	if got := a.Expand(strings.Repeat("${1}$ ", 1<<20), "xyz", []int{0, 3, 1, 2}); got != strings.Repeat("y$ ", 1<<20) {
		t.Error("a long template with names")
	}
	if got := a.Expand("$"+strings.Repeat("1", 1<<20), "xyz", []int{0, 3, 1, 2}); got != "" {
		t.Error("a long name")
	}
}

// P1, rule 1: Run of programs of any shape.
func TestTotalPrograms(t *testing.T) {
	t.Parallel()
	ends := []int{math.MinInt, math.MinInt32, -1, 0, 0, 0, 1, 1, 2, math.MaxInt32, math.MaxInt}
	r := someRand()
	some := func() int { return ends[r.IntN(len(ends))] }
	for range 100000 {
		p := api.Prog{Start: some(), Groups: some(), Names: make([]string, r.IntN(3))}
		for range r.IntN(4) {
			i := api.Inst{Op: r.IntN(14) - 1, Out: some(), Alt: some(), Arg: some()}
			for range r.IntN(3) {
				i.Ranges = append(i.Ranges, api.RuneRange{Lo: rune(some()), Hi: rune(some())})
			}
			p.Insts = append(p.Insts, i)
		}
		for _, s := range []string{"", "a", "\x01\xff"} {
			rx.Run(p, s)
		}
	}
	if l := rx.Run(api.Prog{Insts: make([]api.Inst, 1<<20)}, "a"); len(l) != 0 {
		t.Error("a million instructions")
	}
	if l := rx.Run(api.Prog{Insts: []api.Inst{match()}, Groups: 1 << 20, Names: make([]string, 1<<20)}, ""); len(l) != 0 {
		t.Error("a million groups")
	}
}

// P1, rule 3: beside an error, and beside false, there is nothing.
func TestNothingBesideErrors(t *testing.T) {
	for _, pattern := range patterns() {
		r, e := rx.Compile(pattern)
		if (e != api.OK) != (r == nil) {
			t.Errorf("%q: %v, %d", pattern, r, e)
		}
		for _, s := range []string{"", "a", "zz\n", "\xff"} {
			if text, ok := r.Replace(s, "text"); ok != r.Match(s) || !ok && text != "" {
				t.Errorf("%q, %q: %q, %v", pattern, s, text, ok)
			}
		}
	}
}

// P1, rule 4: nil and the empty list are one and the same.
func TestNilIsEmpty(t *testing.T) {
	p := good()
	for i := range p.Insts {
		if p.Insts[i].Ranges == nil {
			p.Insts[i].Ranges = []api.RuneRange{}
		}
	}
	checkRun(t, p, "a", rx.Run(good(), "a")...)
	checkRun(t, api.Prog{Insts: []api.Inst{match()}, Names: []string{}}, "", 0, 0)
	checkRun(t, api.Prog{Insts: []api.Inst{}, Names: []string{}}, "")
	r := compiled(t, "(?P<x>a)")
	for _, template := range []string{"", "$0$1$x", "$$"} {
		if r.Expand(template, "a", nil) != r.Expand(template, "a", []int{}) {
			t.Errorf("%q", template)
		}
	}
}

// P1, rule 5: programs and lists of groups stay as they are, the room behind them too, and what that room holds counts for nothing.
func TestArgumentsStayAsTheyAre(t *testing.T) {
	for _, start := range []int{0, 4, 99} {
		p := good()
		insts := append(slices.Clone(p.Insts), slices.Repeat([]api.Inst{{Op: api.OpMatch, Out: 3}}, 4)...)
		names := append(slices.Clone(p.Names), "mark", "mark")
		list := append(slices.Clone(p.Insts[1].Ranges), api.RuneRange{Lo: 'b', Hi: 'z'})
		p.Insts, p.Names, p.Start = insts[:len(p.Insts)], names[:len(p.Names)], start
		p.Insts[1].Ranges = list[:1]
		before := fmt.Sprint(p, insts, names, list)
		for _, s := range []string{"a", "b", ""} {
			want := start == 0 && s == "a"
			if got := len(rx.Run(p, s)) > 0; got != want {
				t.Errorf("Start %d, %q: %v", start, s, got)
			}
		}
		if fmt.Sprint(p, insts, names, list) != before {
			t.Error("the program was changed")
		}
	}
	r := compiled(t, "(?P<x>.)(.)")
	all := []int{0, 2, 0, 1, 1, 2, 7, 8}
	for n := range len(all) + 1 {
		want := r.Expand("$0$1$2$x", "ab", slices.Clone(all[:n]))
		if got := r.Expand("$0$1$2$x", "ab", all[:n]); got != want {
			t.Errorf("with marks behind the list %q, not %q", got, want)
		}
	}
	if !slices.Equal(all, []int{0, 2, 0, 1, 1, 2, 7, 8}) {
		t.Error("the list of groups was changed")
	}
}

// A stretch of memory, from its first byte to behind its last.
type stretch struct {
	from, to uintptr
}

func stretchOf(list []int) stretch {
	p := uintptr(unsafe.Pointer(unsafe.SliceData(list)))
	return stretch{p, p + uintptr(cap(list))*unsafe.Sizeof(0)}
}

func stretchOfText(s string) stretch {
	p := uintptr(unsafe.Pointer(unsafe.StringData(s)))
	return stretch{p, p + uintptr(len(s))}
}

// checkApart: no two of these share memory.
func checkApart(t *testing.T, all []stretch, why string) {
	t.Helper()
	all = slices.DeleteFunc(all, func(s stretch) bool { return s.from == s.to })
	slices.SortFunc(all, func(a, b stretch) int {
		if a.from < b.from {
			return -1
		}
		return 1
	})
	for i := 1; i < len(all); i++ {
		if all[i].from < all[i-1].to {
			t.Fatalf("%s: memory is shared", why)
		}
	}
}

// P1, rule 5: no answer shares memory with an argument, with another answer or with what the regex keeps, spare room included.
func TestAnswersAreNewMemory(t *testing.T) {
	pattern := strings.Clone("(?P<first_name>[a-z]*)(?P<second_name>-.*)?")
	r := compiled(t, pattern)
	s, templates := strings.Clone("abc-def"), []string{"", "plain text", "$0", "$1", "${second_name}", "$first_name", "$$", "-$0-$1-"}
	for i := range templates {
		templates[i] = strings.Clone(templates[i])
	}
	var texts []string
	lists := [][]int{{0, 7, 0, 3, 3, 7}}
	for range 3 {
		texts = append(texts, r.Pattern(), r.Name(1), r.Name(2))
		lists = append(lists, r.Groups(s), r.Groups(s), rx.Run(programOf(t, pattern), s))
		for _, template := range templates {
			text, _ := r.Replace(s, template)
			texts = append(texts, text, r.Expand(template, s, lists[0]))
		}
	}
	all := []stretch{stretchOfText(pattern), stretchOfText(s)}
	for _, text := range slices.Concat(texts, templates) {
		all = append(all, stretchOfText(text))
	}
	for _, list := range lists {
		all = append(all, stretchOf(list))
	}
	checkApart(t, all, pattern)
}

// changeable: a text whose bytes the caller holds.
func changeable(s string) (string, []byte) {
	b := []byte(s)
	return unsafe.String(unsafe.SliceData(b), len(b)), b
}

// P1, rules 5 and 6: what the caller changes after a call, arguments or answers, changes nothing.
func TestChangedAfterwards(t *testing.T) {
	for _, text := range patterns() {
		pattern, bytes := changeable(text)
		want := askRegex(text)
		r, e := rx.Compile(pattern)
		for i := range bytes {
			bytes[i] = '#'
		}
		if got := fmt.Sprint(r != nil, e, r.Count()) + toldRegex(r); got != want {
			t.Errorf("%q: behind a changed pattern %s, not %s", text, got, want)
		}
		for _, s := range []string{"", "a", "ab", "abcd"} {
			l := r.Groups(s)
			l = l[:cap(l)]
			for i := range l {
				l[i] = -7
			}
		}
		if got := fmt.Sprint(r != nil, e, r.Count()) + toldRegex(r); got != want {
			t.Errorf("%q: behind spoiled answers %s, not %s", text, got, want)
		}
	}
	p := programOf(t, "(?P<x>[ab]+)(c)?")
	found := rx.Run(p, "abc")
	for i := range p.Insts {
		for j := range p.Insts[i].Ranges {
			p.Insts[i].Ranges[j] = api.RuneRange{Lo: -1, Hi: -2}
		}
		p.Insts[i] = api.Inst{Op: 77}
	}
	p.Names[0] = "spoiled"
	if !slices.Equal(found, []int{0, 3, 0, 2, 2, 3}) {
		t.Errorf("%v", found)
	}
	for i := range found[:cap(found)] {
		found[:cap(found)][i] = -9
	}
	checkRun(t, programOf(t, "(?P<x>[ab]+)(c)?"), "abc", 0, 3, 0, 2, 2, 3)
}

// P1, rule 5: texts, templates and lists that are changed after the call leave the answers as they were.
func TestChangedTexts(t *testing.T) {
	r := compiled(t, "(?P<x>.)(.)")
	s, sBytes := changeable("ab")
	template, bytes := changeable("-$2$x-")
	groups := []int{0, 2, 0, 1, 1, 2}
	expanded := r.Expand(template, s, groups)
	replaced, _ := r.Replace(s, template)
	whole := r.Expand("$0", s, groups)
	plain, plainBytes := changeable("plain")
	same := r.Expand(plain, s, nil)
	for _, b := range [][]byte{sBytes, bytes, plainBytes} {
		for i := range b {
			b[i] = '#'
		}
	}
	clear(groups)
	if expanded != "-ba-" || replaced != "-ba-" || whole != "ab" || same != "plain" {
		t.Errorf("%q, %q, %q, %q", expanded, replaced, whole, same)
	}
}

// P2, and P1, rules 6 and 10: a call answers the same ahead of others, behind them and beside them; one regex or several, made of one pattern, answer the same.
func TestNothingIsKept(t *testing.T) {
	ask := func() []string {
		var out []string
		for _, pattern := range patterns() {
			out = append(out, askRegex(pattern))
		}
		r := someRand()
		for range 200 {
			out = append(out, fmt.Sprint(rx.Run(someProgram(r), "ab\né")))
		}
		return out
	}
	want := ask()
	if len(slices.Compact(slices.Sorted(slices.Values(want)))) < 15 {
		t.Error("all answers are alike")
	}
	answers := make([][]string, 8)
	var all sync.WaitGroup
	for i := range answers {
		all.Go(func() { answers[i] = ask() })
	}
	all.Wait()
	for _, got := range answers {
		if !slices.Equal(got, want) {
			t.Fatal("an answer hangs on what else is asked")
		}
	}
}

// P2: a regex answers the same whatever it has been asked before.
func TestRegexNeverChanges(t *testing.T) {
	for _, pattern := range patterns() {
		r, _ := rx.Compile(pattern)
		want := toldRegex(r)
		for _, s := range []string{"b", "", "\xff", strings.Repeat("ab", 5000), "abcd"} {
			r.Match(s)
			r.Replace(s, "$0$1$2")
			r.Expand("$x$5", s, []int{3, 1, -1})
			if got := toldRegex(r); got != want {
				t.Fatalf("%q, behind %.20q: %s, not %s", pattern, s, got, want)
			}
		}
	}
}

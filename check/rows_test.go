package check_test

import (
	"math/rand/v2"
	"slices"
	"strings"
	"sync"
	"testing"

	"weir/api"
	"weir/check"
	"weir/parse"
	"weir/tree"
)

// built: the tree of rows that must be a tree's.
func built(t *testing.T, rows []api.Row) api.Tree {
	t.Helper()
	x, e := tree.Build(rows)
	if e != api.OK {
		t.Fatalf("Build(%+v): %d", rows, e)
	}
	return x
}

// parsed: the tree of a text that must be a query.
func parsed(t *testing.T, text string) api.Tree {
	t.Helper()
	x, place, e := parse.Parse(text)
	if e != api.OK {
		t.Fatalf("Parse(%q): %d at %d", text, e, place)
	}
	return x
}

// agree holds Check of the tree of rows against the chapter's words, and answers what both say.
func agree(t *testing.T, rows []api.Row) (int, api.Errno) {
	t.Helper()
	kind, e := check.Check(built(t, rows))
	if want, fault := wantedOf(rows); kind != want || e != fault {
		t.Fatalf("Check(%+v) = %d, %d; want %d, %d", rows, kind, e, want, fault)
	}
	return kind, e
}

// answers holds Check of a text against what is wanted, and against the chapter's words.
func answers(t *testing.T, text string, kind int, e api.Errno) {
	t.Helper()
	if got, fault := agree(t, tree.Rows(parsed(t, text))); got != kind || fault != e {
		t.Errorf("Check(%s) = %d, %d; want %d, %d", text, got, fault, kind, e)
	}
}

// ofType: the plainest tree of the type of that letter.
func ofType(letter byte) []api.Row {
	up := api.Row{Kind: 3, Text: "up"}
	switch letter {
	case 's':
		return []api.Row{{Kind: 1, Text: "1"}}
	case 't':
		return []api.Row{{Kind: 2, Text: "x"}}
	case 'v':
		return []api.Row{up}
	}
	return []api.Row{{Kind: 4, Kids: 1, Dur: "5m"}, up}
}

// over: the rows of a node over plain kids of these types.
func over(r api.Row, types string) []api.Row {
	r.Kids = len(types)
	rows := []api.Row{r}
	for i := range len(types) {
		rows = append(rows, ofType(types[i])...)
	}
	return rows
}

// typeLists: all lists of so many types.
func typeLists(n int) []string {
	if n == 0 {
		return []string{""}
	}
	var list []string
	for _, l := range typeLists(n - 1) {
		for _, c := range "stvm" {
			list = append(list, l+string(c))
		}
	}
	return list
}

// patterns: regexes that match the empty text, that don't, and that aren't taken.
func patterns() []string {
	return []string{"", "a", ".*", ".+", "a|", "a?", "^", "$", `\b`, `\B`, "x*y*", "(a)(b)?", "é+", "(?:a?){1000}", "(?:a{1000}){9}", strings.Repeat("a", api.MaxPattern),
		"(", ")", "[", "*", `\`, "a{1001}", "(?:a{1000}){11}", strings.Repeat("a", api.MaxPattern+1), "(?<x>a)(?<x>b)"}
}

// taken: those of the patterns that are.
var taken = sync.OnceValue(func() []string {
	return slices.DeleteFunc(patterns(), func(p string) bool { return !compiles(p) })
})

// small: those of the patterns that are taken and aren't dear to compile, for trees with many of them.
var small = sync.OnceValue(func() []string {
	return slices.DeleteFunc(patterns(), func(p string) bool { return len(p) > 10 || !compiles(p) })
})

func names() []string {
	return []string{"a", "b", "__name__", "__name__", "NaN", "by"}
}

func operators() []string {
	return strings.Fields("or and unless == != < > <= >= + - * / % ^")
}

func aggregations() []string {
	return strings.Fields("avg bottomk count count_values group max min quantile stddev stdvar sum topk")
}

// matchings: each field alone and with others, as a row may have them.
func matchings() []api.Matching {
	list := []api.Matching{{}, {Labels: []string{}, Include: []string{}}}
	lists := [][]string{nil, {"a"}, {"a", "b"}, {"b", "c", "a"}, {"A"}, {"aa", "aa"}}
	for _, on := range []bool{false, true} {
		for _, labels := range lists {
			list = append(list, api.Matching{Given: true, On: on, Labels: labels})
			for _, include := range lists {
				for card := 1; card <= 2; card++ {
					list = append(list, api.Matching{Given: true, On: on, Labels: labels, Card: card, Include: include})
				}
			}
		}
	}
	return list
}

// whens: times that are fine, near the edge and too far, with offsets of all sorts.
func whens() []api.When {
	var list []api.When
	for _, at := range []string{"", "start", "end", "0", "1e3", "0x10", ".5", "253402300799.999", "253402300799.9994", "253402300799.9995", "253402300800", "0x3afff4417f", "0x3afff44180", "1e300", "inf", "Inf", "NaN", "nan"} {
		for _, offset := range []string{"", "0s", "-0ms", "5m", "-10000y"} {
			list = append(list, api.When{Offset: offset, At: at})
		}
	}
	return list
}

// durations: those of 0 ms and others.
func durations() (empty, full []string) {
	return []string{"0s", "0ms", "00m", "0y0w0d0h0m0s0ms", strings.Repeat("0", 63) + "s"}, []string{"5m", "1ms", "0s1ms", "10000y", "1y0s", "0m30s"}
}

// A forest makes trees by chance.
type forest struct {
	dice *rand.Rand
	slip int // one of so many choices is a slip; 0: none is
}

func newForest(seed uint64, slip int) *forest {
	return &forest{dice: rand.New(rand.NewPCG(seed, 14)), slip: slip}
}

func (f *forest) slips() bool {
	return f.slip > 0 && f.dice.IntN(f.slip) == 0
}

func pick[T any](f *forest, list []T) T {
	return list[f.dice.IntN(len(list))]
}

// tree: a tree of the type of that letter, if there is no slip.
func (f *forest) tree(letter byte, depth int) []api.Row {
	if f.slips() {
		letter = "stvm"[f.dice.IntN(4)]
	}
	switch letter {
	case 's':
		return f.scalar(depth)
	case 't':
		return []api.Row{{Kind: 2, Text: f.text()}}
	case 'm':
		return f.matrix(depth)
	}
	return f.vector(depth)
}

// text: a label's name, if there is no slip.
func (f *forest) text() string {
	if f.slips() {
		return pick(f, []string{"", "1", "a-b", "a:b", "é", "a "})
	}
	return pick(f, names())
}

// pattern: one that is taken, if there is no slip.
func (f *forest) pattern() string {
	if f.slips() {
		return pick(f, patterns())
	}
	return pick(f, small())
}

func (f *forest) when() api.When {
	for {
		if w := pick(f, whens()); !far(w.At) || f.slips() {
			return w
		}
	}
}

func (f *forest) duration() string {
	empty, full := durations()
	if f.slips() {
		return pick(f, empty)
	}
	return pick(f, full)
}

// matcher: one with a pattern out of the list, or with a text.
func (f *forest) matcher(patterns []string) api.Matcher {
	m := api.Matcher{Name: pick(f, names()), Op: 1 + f.dice.IntN(4), Value: pick(f, []string{"", "x", "(", "é"})}
	if m.Op >= api.MatchRe {
		m.Value = pick(f, patterns)
	}
	return m
}

// selector: a sound one, if there is no slip; else any.
func (f *forest) selector() []api.Row {
	slip, list := f.slips(), small()
	if slip {
		list = patterns()
	}
	for {
		r := api.Row{Kind: 3, Text: pick(f, []string{"", "up", "a:b", "x"}), When: f.when()}
		for range f.dice.IntN(4) {
			r.Matchers = append(r.Matchers, f.matcher(list))
		}
		if _, e := wantedOf([]api.Row{r}); e == api.OK || slip {
			return []api.Row{r}
		}
	}
}

func (f *forest) scalar(depth int) []api.Row {
	if depth <= 1 {
		return []api.Row{{Kind: 1, Text: pick(f, []string{"0", "1.5", "inf", "nan", "5m", "0x1F"})}}
	}
	switch f.dice.IntN(4) {
	case 0:
		return f.over(api.Row{Kind: 6, Op: pick(f, []string{"+", "-"})}, "s", depth)
	case 1:
		return f.binary("ss", depth)
	case 2:
		return f.call("s", depth)
	}
	return f.scalar(1)
}

func (f *forest) matrix(depth int) []api.Row {
	if depth <= 2 || f.dice.IntN(2) == 0 {
		return append([]api.Row{{Kind: 4, Kids: 1, Dur: f.duration()}}, f.selector()...)
	}
	r := api.Row{Kind: 5, Dur: f.duration(), When: f.when()}
	if f.dice.IntN(2) == 0 {
		r.Step = f.duration()
	}
	return f.over(r, "v", depth)
}

func (f *forest) vector(depth int) []api.Row {
	if depth <= 2 {
		return f.selector()
	}
	switch f.dice.IntN(10) {
	case 0:
		return f.selector()
	case 1:
		return f.over(api.Row{Kind: 6, Op: pick(f, []string{"+", "-"})}, "v", depth)
	case 2, 3, 4:
		return f.binary(pick(f, []string{"vv", "vv", "sv", "vs"}), depth)
	case 5, 6:
		return f.aggregate(depth)
	}
	return f.call("v", depth)
}

// over: a node over trees of these types.
func (f *forest) over(r api.Row, types string, depth int) []api.Row {
	r.Kids = len(types)
	rows := []api.Row{r}
	for i := range len(types) {
		rows = append(rows, f.tree(types[i], depth-1)...)
	}
	return rows
}

// binary: an operator between two types, with what may stand beside it there, if there is no slip.
func (f *forest) binary(types string, depth int) []api.Row {
	for {
		r := api.Row{Kind: 7, Op: pick(f, operators()), Bool: f.dice.IntN(3) == 0}
		if f.dice.IntN(3) == 0 {
			r.Matching = pick(f, matchings())
		}
		if !slices.ContainsFunc(binaryRules(r, types), func(r rule) bool { return r.broken }) || f.slips() {
			return f.over(r, types, depth)
		}
	}
}

func (f *forest) aggregate(depth int) []api.Row {
	r := api.Row{Kind: 9, Op: pick(f, aggregations()), Without: f.dice.IntN(2) == 0}
	for range f.dice.IntN(3) {
		r.Labels = append(r.Labels, pick(f, names()))
	}
	types := params()[r.Op] + "v"
	if f.slips() {
		types = pick(f, []string{"v", "sv", "tv", "vv"})
	}
	return f.over(r, types, depth)
}

// call: of a function with that result; its arguments are as it asks for, if there is no slip.
func (f *forest) call(result string, depth int) []api.Row {
	all := functions()
	var list []string
	for name, k := range all {
		if k.result == result {
			list = append(list, name)
		}
	}
	slices.Sort(list)
	r := api.Row{Kind: 8, Op: pick(f, list)}
	if f.slips() {
		r.Op = pick(f, []string{"nothing", "Rate", "rates", "abs_"})
	}
	types := all[r.Op].args
	types = strings.ReplaceAll(types, "t*", strings.Repeat("t", f.dice.IntN(4)))
	if i := strings.Index(types, "?"); i > 0 {
		types = pick(f, []string{types[:i], types[:i-1]})
	}
	if f.slips() {
		types += "v"
	}
	rows := f.over(r, types, depth)
	if last := &rows[len(rows)-1]; r.Op == "label_replace" && last.Kind == 2 {
		last.Text = f.pattern()
	}
	return rows
}

package show_test

import (
	"math/rand/v2"
	"slices"
	"strings"
	"testing"

	"weir/api"
	"weir/parse"
	"weir/show"
	"weir/tree"
)

// built: the tree of rows that must be a tree's.
func built(t *testing.T, rows []api.Row) api.Tree {
	t.Helper()
	x, e := tree.Build(rows)
	if e != api.OK {
		t.Fatalf("Build(%+v): %d", rows, e)
	}
	return x
}

// parsed: the tree of a text that must be a query.
func parsed(t *testing.T, text string) api.Tree {
	t.Helper()
	x, place, e := parse.Parse(text)
	if e != api.OK {
		t.Fatalf("Parse(%q): %d at %d", text, e, place)
	}
	return x
}

// agree holds Show of the tree of rows against the chapter's words (P15.1), has it read back (P15.4), leaves out its brackets (P15.5), and answers it.
func agree(t *testing.T, rows []api.Row) string {
	t.Helper()
	x := built(t, rows)
	got := show.Show(x)
	all, pairs := pieces(rows)
	if want := joined(all, 0); got != want {
		t.Fatalf("Show(%+v) = %q; want %q", rows, got, want)
	}
	back(t, x, got)
	for pair := 1; pair <= pairs; pair++ {
		less := joined(all, pair)
		if y, _, e := parse.Parse(less); e == api.OK && tree.Same(x, y) {
			t.Fatalf("%q says as much as %q", less, got)
		}
	}
	return got
}

// back: a tree's text is read as that tree, whose text it is again.
func back(t *testing.T, x api.Tree, text string) {
	t.Helper()
	y := parsed(t, text)
	if !tree.Same(x, y) {
		t.Fatalf("%q is read as another tree", text)
	}
	if again := show.Show(y); again != text {
		t.Fatalf("%q, and read and shown again %q", text, again)
	}
}

// says holds the text of the tree of rows against one that was written by hand.
func says(t *testing.T, want string, rows []api.Row) {
	t.Helper()
	if got := agree(t, rows); got != want {
		t.Errorf("Show = %q; want %q", got, want)
	}
}

func number(text string) []api.Row { return []api.Row{{Kind: 1, Text: text}} }

func text(value string) []api.Row { return []api.Row{{Kind: 2, Text: value}} }

func selector(name string, when api.When, ms ...api.Matcher) []api.Row {
	return []api.Row{{Kind: 3, Text: name, Matchers: ms, When: when}}
}

func plainly(name string) []api.Row { return selector(name, api.When{}) }

func window(dur string, of []api.Row) []api.Row {
	return append([]api.Row{{Kind: 4, Kids: 1, Dur: dur}}, of...)
}

func subquery(x []api.Row, dur, step string, when api.When) []api.Row {
	return append([]api.Row{{Kind: 5, Kids: 1, Dur: dur, Step: step, When: when}}, x...)
}

func unary(op string, x []api.Row) []api.Row {
	return append([]api.Row{{Kind: 6, Kids: 1, Op: op}}, x...)
}

func binary(op string, x, y []api.Row) []api.Row {
	return slices.Concat([]api.Row{{Kind: 7, Kids: 2, Op: op}}, x, y)
}

func call(name string, args ...[]api.Row) []api.Row {
	return slices.Concat([]api.Row{{Kind: 8, Kids: len(args), Op: name}}, slices.Concat(args...))
}

func aggregate(op string, without bool, labels []string, args ...[]api.Row) []api.Row {
	return slices.Concat([]api.Row{{Kind: 9, Kids: len(args), Op: op, Without: without, Labels: labels}}, slices.Concat(args...))
}

func operators() []string {
	return strings.Fields("or and unless == != < > <= >= + - * / % ^")
}

func aggregations() []string {
	return strings.Fields("avg bottomk count count_values group max min quantile stddev stdvar sum topk")
}

// A thing is a tree with the text by which it is known.
type thing struct {
	text  string
	level int
	rows  []api.Row
}

// things: one of each kind, each operator and each level.
func things() []thing {
	a, b := plainly("a"), plainly("b")
	list := []thing{
		{"1", 8, number("1")},
		{"5m", 8, number("5m")},
		{"Inf", 8, number("Inf")},
		{`"x"`, 8, text("x")},
		{"a", 8, a},
		{"{}", 8, plainly("")},
		{`a{b="c"}`, 8, selector("a", api.When{}, api.Matcher{Name: "b", Op: 1, Value: "c"})},
		{"a offset -1h", 8, selector("a", api.When{Offset: "-1h"})},
		{"a @ end()", 8, selector("a", api.When{At: "end"})},
		{"a[5m]", 8, window("5m", a)},
		{"a[5m] @ 7", 8, window("5m", selector("a", api.When{At: "7"}))},
		{"a[1h:]", 8, subquery(a, "1h", "", api.When{})},
		{"a[1h:5m] offset 1d", 8, subquery(a, "1h", "5m", api.When{Offset: "1d"})},
		{"f()", 8, call("f")},
		{"f(a, b)", 8, call("f", a, b)},
		{"sum(a)", 8, aggregate("sum", false, nil, a)},
		{"topk by(x) (a, b)", 8, aggregate("topk", false, []string{"x"}, a, b)},
		{"-a", 6, unary("-", a)},
		{"+a", 6, unary("+", a)},
	}
	for level, ops := range ranks {
		for _, op := range strings.Fields(ops) {
			if slices.Contains(operators(), op) {
				list = append(list, thing{"a " + op + " b", level, binary(op, a, b)})
			}
		}
	}
	return list
}

// matchings: each field alone and with others, as a tree may have them.
func matchings() []api.Matching {
	list := []api.Matching{{}, {Labels: []string{}, Include: []string{}}}
	lists := [][]string{nil, {"x"}, {"y", "x", "by"}, {"inf", "NaN"}, {"z", "z"}}
	for _, on := range []bool{false, true} {
		for _, labels := range lists {
			list = append(list, api.Matching{Given: true, On: on, Labels: labels})
			for _, include := range lists {
				for card := 1; card <= 2; card++ {
					list = append(list, api.Matching{Given: true, On: on, Labels: labels, Card: card, Include: include})
				}
			}
		}
	}
	return list
}

// lexemes: numbers and durations.
func lexemes() (numbers, durations []string) {
	return []string{"0", "1", "1.0", "1.", ".5", "1e3", "1E+3", "2e-7", "0x1F", "0XaB", "inf", "Inf", "NaN", "nAn", "007", strings.Repeat("9", 300)},
		[]string{"5m", "0s", "1ms", "1h30m", "1y2w3d4h5m6s7ms", "10000y", "05m", strings.Repeat("0", 60) + "1s"}
}

func whens() []api.When {
	numbers, durations := lexemes()
	var list []api.When
	for _, at := range append(numbers, "", "start", "end") {
		list = append(list, api.When{At: at})
		for _, offset := range durations {
			list = append(list, api.When{At: at, Offset: offset}, api.When{At: at, Offset: "-" + offset})
		}
	}
	return list
}

// values: texts that are UTF-8, all that a literal tells in a way of its own among them.
func values() []string {
	var list []string
	for r := range rune(0x100) {
		list = append(list, string(r))
	}
	return append(list, "", "x", "a b", `"`, `\`, `'`, "`", `\"`, `"\\"`, "\n", "\r\n", "a\nb", "\x00", "\x1b[0m", "\x7f", "é", "日本", "\u2028", "\ufeff", "\ufffd", "\U0010ffff", "😀", `\n`, `\x41`, "{}", "(", ")", "#", "# x\n", "a\" or \"b", "%s", strings.Repeat("x", 1000))
}

func metrics() []string {
	return []string{"up", "a", "a:b", ":", ":5", "sum:", "_", "start", "end", "Start", "x1", "rate", "infx", "sums", "e5", "byx", strings.Repeat("n", 200)}
}

func labels() []string {
	return []string{"a", "job", "__name__", "by", "BY", "on", "offset", "inf", "NaN", "sum", "bool", "start", "_", "x1", "e5", strings.Repeat("l", 200)}
}

func functions() []string {
	return []string{"rate", "time", "start", "end", "f", "_", "x1", "sums", "infx", "Byx"}
}

// A forest makes trees by chance.
type forest struct {
	dice  *rand.Rand
	texts []string // values, made once
	whens []api.When
	pairs []api.Matching
}

func newForest(seed uint64) *forest {
	return &forest{dice: rand.New(rand.NewPCG(seed, 15)), texts: values(), whens: whens(), pairs: matchings()}
}

func pick[T any](f *forest, list []T) T {
	return list[f.dice.IntN(len(list))]
}

// few: none to three things out of a list.
func few[T any](f *forest, list []T) []T {
	var some []T
	for range f.dice.IntN(4) {
		some = append(some, pick(f, list))
	}
	return some
}

func (f *forest) duration() string {
	_, durations := lexemes()
	return pick(f, durations)
}

func (f *forest) when() api.When {
	if f.dice.IntN(2) == 0 {
		return api.When{}
	}
	return pick(f, f.whens)
}

func (f *forest) leaf() []api.Row {
	numbers, durations := lexemes()
	switch f.dice.IntN(4) {
	case 0:
		return number(pick(f, slices.Concat(numbers, durations)))
	case 1:
		return text(pick(f, f.texts))
	}
	return f.selector()
}

func (f *forest) selector() []api.Row {
	var ms []api.Matcher
	for _, name := range few(f, labels()) {
		ms = append(ms, api.Matcher{Name: name, Op: 1 + f.dice.IntN(4), Value: pick(f, f.texts)})
	}
	return selector(pick(f, append(metrics(), "", "", "")), f.when(), ms...)
}

// tree: a tree of at most that depth.
func (f *forest) tree(depth int) []api.Row {
	if depth <= 1 || f.dice.IntN(12) == 0 {
		return f.leaf()
	}
	switch f.dice.IntN(10) {
	case 0:
		return window(f.duration(), f.selector())
	case 1:
		return subquery(f.tree(depth-1), f.duration(), pick(f, []string{"", f.duration()}), f.when())
	case 2:
		return unary(pick(f, []string{"+", "-"}), f.tree(depth-1))
	case 3:
		var args [][]api.Row
		for range f.dice.IntN(4) {
			args = append(args, f.tree(depth-1))
		}
		return call(pick(f, functions()), args...)
	case 4:
		args := [][]api.Row{f.tree(depth - 1)}
		if f.dice.IntN(2) == 0 {
			args = append(args, f.tree(depth-1))
		}
		return aggregate(pick(f, aggregations()), f.dice.IntN(2) == 0, few(f, labels()), args...)
	}
	rows := binary(pick(f, operators()), f.tree(depth-1), f.tree(depth-1))
	rows[0].Bool = f.dice.IntN(4) == 0
	if f.dice.IntN(3) == 0 {
		rows[0].Matching = pick(f, f.pairs)
	}
	return rows
}

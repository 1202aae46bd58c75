package tree_test

import (
	"fmt"
	"iter"
	"math"
	"math/rand/v2"
	"regexp"
	"slices"
	"strings"
	"unicode/utf8"

	"weir/api"
	"weir/num"
	"weir/span"
)

// The chapter's words, written down a second time and in another way (texts by the library's regexes, rows told as texts), to hold the package against.

var (
	numberForm = regexp.MustCompile(`\A(?:0[xX][0-9a-fA-F]+|(?:[0-9]+(?:\.[0-9]*)?|\.[0-9]+)(?:[eE][-+]?[0-9]+)?|(?i:inf|nan))\z`)
	spanForm   = regexp.MustCompile(`\A(?:[0-9]+y)?(?:[0-9]+w)?(?:[0-9]+d)?(?:[0-9]+h)?(?:[0-9]+m)?(?:[0-9]+s)?(?:[0-9]+ms)?\z`)
	labelForm  = regexp.MustCompile(`\A[A-Za-z_][A-Za-z0-9_]*\z`)
	metricForm = regexp.MustCompile(`\A[A-Za-z_:][A-Za-z0-9_:]*\z`)
	takenWords = regexp.MustCompile(`\A(?i:and|bool|by|group_left|group_right|ignoring|offset|on|or|unless|without|avg|bottomk|count|count_values|group|max|min|quantile|stddev|stdvar|sum|topk|inf|nan)\z`)
	binaryOps  = regexp.MustCompile(`\A(?:or|and|unless|==|!=|<|>|<=|>=|\+|-|\*|/|%|\^)\z`)
	aggregates = regexp.MustCompile(`\A(?:avg|bottomk|count|count_values|group|max|min|quantile|stddev|stdvar|sum|topk)\z`)
	turnForms  = regexp.MustCompile(`\A[-+]\z`)
)

func number(s string) bool {
	_, e := num.Read(s)
	return numberForm.MatchString(s) && e == api.OK
}

func duration(s string) bool {
	_, e := span.Parse(s)
	return s != "" && spanForm.MatchString(s) && e == api.OK
}

func metric(s string) bool {
	return metricForm.MatchString(s) && !takenWords.MatchString(s) && len(s) <= api.MaxText
}

func labelNames(lists ...[]string) bool {
	return !slices.ContainsFunc(slices.Concat(lists...), func(s string) bool { return !labelForm.MatchString(s) })
}

func when(w api.When) bool {
	offset, _ := strings.CutPrefix(w.Offset, "-")
	return (w.Offset == "" || duration(offset)) && (slices.Contains([]string{"", "start", "end"}, w.At) || number(w.At))
}

func matchers(list []api.Matcher) bool {
	return !slices.ContainsFunc(list, func(m api.Matcher) bool {
		return !labelForm.MatchString(m.Name) || m.Op < 1 || m.Op > 4 || !utf8.ValidString(m.Value)
	})
}

func matching(m api.Matching) bool {
	if !m.Given {
		return !m.On && m.Card == 0 && len(m.Labels)+len(m.Include) == 0
	}
	return labelNames(m.Labels, m.Include) && (m.Card == 1 || m.Card == 2 || m.Card == 0 && len(m.Include) == 0)
}

// columns: which fields a row of each kind has, by the chapter's table.
func columns(kind int) string {
	return []string{"", "Text", "Text", "Text Matchers When", "Dur", "Dur Step When", "Op", "Op Bool Matching", "Op", "Op Without Labels"}[kind]
}

// filled: the fields of a row that aren't zero, but Kind and Kids.
func filled(r api.Row) []string {
	var list []string
	note := func(name string, set bool) {
		if set {
			list = append(list, name)
		}
	}
	note("Op", r.Op != "")
	note("Text", r.Text != "")
	note("Matchers", len(r.Matchers) > 0)
	note("Dur", r.Dur != "")
	note("Step", r.Step != "")
	note("When", r.When.Offset != "" || r.When.At != "")
	note("Bool", r.Bool)
	note("Matching", r.Matching.Given || r.Matching.On || r.Matching.Card != 0 || len(r.Matching.Labels) > 0 || len(r.Matching.Include) > 0)
	note("Without", r.Without)
	note("Labels", len(r.Labels) > 0)
	return list
}

// rowSound: what the chapter calls a sound row.
func rowSound(r api.Row) bool {
	if r.Kind < 1 || r.Kind > 9 {
		return false
	}
	for _, name := range filled(r) {
		if !slices.Contains(strings.Fields(columns(r.Kind)), name) {
			return false
		}
	}
	switch r.Kind {
	case 1:
		return r.Kids == 0 && (number(r.Text) || duration(r.Text))
	case 2:
		return r.Kids == 0 && utf8.ValidString(r.Text)
	case 3:
		return r.Kids == 0 && (r.Text == "" || metric(r.Text)) && matchers(r.Matchers) && when(r.When)
	case 4:
		return r.Kids == 1 && duration(r.Dur)
	case 5:
		return r.Kids == 1 && duration(r.Dur) && (r.Step == "" || duration(r.Step)) && when(r.When)
	case 6:
		return r.Kids == 1 && turnForms.MatchString(r.Op)
	case 7:
		return r.Kids == 2 && binaryOps.MatchString(r.Op) && matching(r.Matching)
	case 8:
		return r.Kids >= 0 && metric(r.Op) && !strings.Contains(r.Op, ":")
	}
	return (r.Kids == 1 || r.Kids == 2) && aggregates.MatchString(r.Op) && labelNames(r.Labels)
}

// first: the rows of the tree at the head of rows, and how deep it is; 0, where there is none.
func first(rows []api.Row) (size, depth int) {
	if len(rows) == 0 {
		return 0, 0
	}
	size, depth = 1, 1
	for range rows[0].Kids {
		n, d := first(rows[size:])
		if n == 0 || rows[0].Kind == 4 && rows[size].Kind != 3 {
			return 0, 0
		}
		size, depth = size+n, max(depth, d+1)
	}
	return size, depth
}

// fault: what the chapter says that Build answers beside the tree.
func fault(rows []api.Row) api.Errno {
	for _, r := range rows {
		if !rowSound(r) {
			return api.ErrShape
		}
	}
	size, depth := first(rows)
	if size == 0 || size < len(rows) {
		return api.ErrShape
	}
	if depth > 128 {
		return api.ErrDepth
	}
	return api.OK
}

// line: a row without its Kind and Kids as a text.
func line(r api.Row) string {
	asked := ""
	for _, m := range r.Matchers {
		asked += fmt.Sprintf("%q %d %q, ", m.Name, m.Op, m.Value)
	}
	return fmt.Sprintf("op %q text %q matchers [%s] dur %q step %q when %q bool %v matching %v %v %q %d %q without %v labels %q", r.Op, r.Text, asked, r.Dur, r.Step, r.When, r.Bool, r.Matching.Given, r.Matching.On, r.Matching.Labels, r.Matching.Card, r.Matching.Include, r.Without, r.Labels)
}

// lines: rows as a text each, an empty list told as nil is.
func lines(rows []api.Row) []string {
	var list []string
	for _, r := range rows {
		list = append(list, fmt.Sprintf("kind %d kids %d %s", r.Kind, r.Kids, line(r)))
	}
	return list
}

// nested: the tree at the head of rows as a text, and the rows behind it.
func nested(rows []api.Row) (string, []api.Row) {
	text, rest := fmt.Sprintf("%d<%s", rows[0].Kind, line(rows[0])), rows[1:]
	for range rows[0].Kids {
		var kid string
		kid, rest = nested(rest)
		text += " " + kid
	}
	return text + ">", rest
}

// told: a tree as nested tells its rows, but read from its nodes.
func told(node api.Expr) string {
	var r api.Row
	var below []api.Expr
	switch n := node.(type) {
	case *api.Number:
		r.Text = n.Lexeme
	case *api.Text:
		r.Text = n.Value
	case *api.Selector:
		r.Text, r.Matchers, r.When.Offset, r.When.At = n.Name, n.Matchers, n.Offset, n.At
	case *api.Range:
		r.Dur, below = n.Dur, []api.Expr{n.Of}
	case *api.Subquery:
		r.Dur, r.Step, r.When.Offset, r.When.At, below = n.Dur, n.Step, n.Offset, n.At, []api.Expr{n.X}
	case *api.Unary:
		r.Op, below = n.Op, []api.Expr{n.X}
	case *api.Binary:
		r.Op, r.Bool, r.Matching, below = n.Op, n.Bool, n.Matching, []api.Expr{n.X, n.Y}
	case *api.Call:
		r.Op, below = n.Name, n.Args
	case *api.Aggregate:
		r.Op, r.Without, r.Labels, below = n.Op, n.Without, n.Labels, []api.Expr{n.X}
		if n.Param != nil {
			below = []api.Expr{n.Param, n.X}
		}
	default:
		return "none"
	}
	text := fmt.Sprintf("%d<%s", node.Kind(), line(r))
	for _, kid := range below {
		text += " " + told(kid)
	}
	return text + ">"
}

// texts: what a field of a row may hold and what it may not.
func texts() []string {
	return []string{"", "1", "1.0", "5m", "1h30m", "0x1F", "0x", "Inf", "nan", "NaN", "iNf", "infx", "1e3", "1e", "1e999", "-1", "+1", " 1", "1 ", "1#", "#", "1\n", "1 2", "1+2",
		"5mm", "0s", "10000y", "10000y1ms", "1m1h", "5M", "5 m", "m", " 5m", "5m ", "5m#x", "5m5m", "-5m", "--5m", "- 5m", "-", "-1h", "+5m", "-5m ", "-1", "-start",
		strings.Repeat("1", 512), strings.Repeat("1", 513), "0x" + strings.Repeat("0", 510), strings.Repeat("0", 63) + "s", strings.Repeat("0", 64) + "s", "-" + strings.Repeat("0", 63) + "s",
		"up", "a:b", ":", ":5", "a:", "_", "a b", " up", "up ", "up#", "sum", "SUM", "by", "By", "BY", "group_left", "count_values", "topk", "bool", "offset", "sum:", "sumx", "rate", "time", "a1", "1a", "a.b", "a-b",
		"start", "end", "START", "start()", "starts", "é", "aé", "\xff", "a\xff", "\x00", "a\x00", "'x'", "\"x\"", "{", "up{}", ".5", ".", "5.", "1..2",
		"+", "-", "*", "/", "%", "^", "==", "!=", "<", ">", "<=", ">=", "=", "=~", "@", "or", "and", "unless", "AND", "Or", "+ ", "++",
		"avg", "bottomk", "count", "group", "max", "min", "quantile", "stddev", "stdvar", "Sum", "sums",
		strings.Repeat("n", 600), strings.Repeat("n", 600) + ":", strings.Repeat("n", 600) + " ", strings.Repeat("+", 600), "'" + strings.Repeat("x", 600) + "'"}
}

func ints() []int {
	return []int{math.MinInt, -2, -1, 0, 1, 2, 3, 4, 5, 6, 7, 8, 9, 10, 11, 1 << 32, math.MaxInt}
}

// nameLists: lists of labels' names, and lists that hold something else.
func nameLists() [][]string {
	lists := [][]string{nil, {}, {"b", "a"}, {"a", "a", "b", "a"}, {"a", ""}, {"", "a"}, {"a:b"}, {"x", "y", "z-"}}
	for _, s := range texts() {
		lists = append(lists, []string{s})
	}
	return lists
}

func matcherLists() [][]api.Matcher {
	a := api.Matcher{Name: "a", Op: 1, Value: "x"}
	lists := [][]api.Matcher{nil, {}, {a}, {a, a}, {a, {Name: "__name__", Op: 2}}, {a, {}}, {{}, a}}
	for _, s := range texts() {
		lists = append(lists, []api.Matcher{{Name: s, Op: 2, Value: "x"}}, []api.Matcher{{Name: "b", Op: 3, Value: s}}, []api.Matcher{a, {Name: "c", Op: 4, Value: s}})
	}
	for _, n := range ints() {
		lists = append(lists, []api.Matcher{{Name: "a", Op: n, Value: "x"}}, []api.Matcher{a, {Name: "a", Op: n}})
	}
	return lists
}

func matchings() []api.Matching {
	list := []api.Matching{{}, {Labels: []string{}, Include: []string{}}, {Labels: []string{"a"}}, {Include: []string{"a"}}, {On: true}}
	for _, on := range []bool{false, true} {
		list = append(list, api.Matching{Given: true, On: on}, api.Matching{Given: true, On: on, Include: []string{"a"}})
		for _, n := range ints() {
			list = append(list, api.Matching{On: on, Card: n}, api.Matching{Given: true, On: on, Card: n}, api.Matching{Given: true, On: on, Card: n, Include: []string{"a", "b"}})
		}
	}
	for _, names := range nameLists() {
		list = append(list, api.Matching{Given: true, Labels: names}, api.Matching{Given: true, Card: 1, Include: names}, api.Matching{Given: true, On: true, Card: 2, Labels: names, Include: []string{"z"}})
	}
	return list
}

// samples: sound rows of each kind.
func samples() []api.Row {
	return []api.Row{
		{Kind: 1, Text: "1"},
		{Kind: 1, Text: "5m"},
		{Kind: 2},
		{Kind: 2, Text: "x"},
		{Kind: 3},
		{Kind: 3, Text: "up", Matchers: []api.Matcher{{Name: "a", Op: 1, Value: "x"}, {Name: "b", Op: 4, Value: "("}}, When: api.When{Offset: "-1h", At: "end"}},
		{Kind: 4, Kids: 1, Dur: "5m"},
		{Kind: 5, Kids: 1, Dur: "5m"},
		{Kind: 5, Kids: 1, Dur: "5m", Step: "1m", When: api.When{Offset: "1h", At: "1e3"}},
		{Kind: 6, Kids: 1, Op: "-"},
		{Kind: 7, Kids: 2, Op: "+"},
		{Kind: 7, Kids: 2, Op: "==", Bool: true, Matching: api.Matching{Given: true, On: true, Labels: []string{"a", "b"}, Card: 2, Include: []string{"c"}}},
		{Kind: 8, Op: "time"},
		{Kind: 8, Kids: 3, Op: "clamp"},
		{Kind: 9, Kids: 1, Op: "sum"},
		{Kind: 9, Kids: 2, Op: "topk", Without: true, Labels: []string{"a", "b"}},
	}
}

// changes: all ways to set one field of a row to a thing of the lists above.
func changes() []func(r *api.Row) {
	var list []func(r *api.Row)
	put := func(set ...func(*api.Row)) { list = append(list, set...) }
	for _, n := range ints() {
		put(func(r *api.Row) { r.Kind = n }, func(r *api.Row) { r.Kids = n })
	}
	for _, s := range texts() {
		put(func(r *api.Row) { r.Op = s }, func(r *api.Row) { r.Text = s }, func(r *api.Row) { r.Dur = s }, func(r *api.Row) { r.Step = s })
		put(func(r *api.Row) { r.When.Offset = s }, func(r *api.Row) { r.When.At = s })
	}
	for _, names := range nameLists() {
		put(func(r *api.Row) { r.Labels = names })
	}
	for _, ms := range matcherLists() {
		put(func(r *api.Row) { r.Matchers = ms })
	}
	for _, m := range matchings() {
		put(func(r *api.Row) { r.Matching = m })
	}
	put(func(r *api.Row) { r.Bool = !r.Bool }, func(r *api.Row) { r.Without = !r.Without })
	return list
}

// changed: a row after each of the changes, one at a time.
func changed(r api.Row) iter.Seq[api.Row] {
	return func(yield func(api.Row) bool) {
		for _, set := range changes() {
			other := r
			set(&other)
			if !yield(other) {
				return
			}
		}
	}
}

// soundRows: all sound rows that the lists above give, each but once.
func soundRows() []api.Row {
	var list []api.Row
	seen := map[string]bool{}
	for _, r := range samples() {
		for other := range changed(r) {
			if key := lines([]api.Row{other})[0]; rowSound(other) && other.Kids < 10 && !seen[key] {
				seen[key] = true
				list = append(list, other)
			}
		}
	}
	return list
}

// withKids: a row with as many plain rows behind it as it asks for, at most ten.
func withKids(r api.Row) []api.Row {
	rows := []api.Row{r}
	for range min(r.Kids, 10) {
		rows = append(rows, api.Row{Kind: 3, Text: "up"})
	}
	return rows
}

// A forest makes trees' rows by chance.
type forest struct {
	dice *rand.Rand
	pool [10][]api.Row
}

func newForest(seed uint64) *forest {
	f := &forest{dice: rand.New(rand.NewPCG(seed, 12))}
	for _, r := range soundRows() {
		f.pool[r.Kind] = append(f.pool[r.Kind], r)
	}
	return f
}

func (f *forest) pick(kind int) api.Row {
	return f.pool[kind][f.dice.IntN(len(f.pool[kind]))]
}

// tree: rows of one tree, at most so deep.
func (f *forest) tree(depth int) []api.Row {
	if depth == 1 || f.dice.IntN(8) == 0 {
		return []api.Row{f.pick(1 + f.dice.IntN(3))}
	}
	r := f.pick(4 + f.dice.IntN(6))
	if r.Kind == 8 {
		r.Kids = f.dice.IntN(6)
	}
	rows := []api.Row{r}
	for range r.Kids {
		if r.Kind == 4 {
			rows = append(rows, f.pick(3))
		} else {
			rows = append(rows, f.tree(depth-1)...)
		}
	}
	return rows
}

// wild: rows of one tree with something done to them, so that they may be a tree's no more.
func (f *forest) wild(depth int) []api.Row {
	rows := f.tree(depth)
	i := f.dice.IntN(len(rows))
	switch f.dice.IntN(6) {
	case 0:
		return slices.Delete(rows, i, i+1)
	case 1:
		return slices.Insert(rows, i, f.pick(1+f.dice.IntN(9)))
	case 2:
		k := f.dice.IntN(len(rows))
		rows[i], rows[k] = rows[k], rows[i]
	case 3:
		rows[i].Kids += f.dice.IntN(3) - 1
	case 4:
		rows[i] = f.pick(1 + f.dice.IntN(9))
	case 5:
		rows[i].Kind = f.dice.IntN(11)
	}
	return rows
}

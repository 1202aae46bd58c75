package show_test

import (
	"math/rand/v2"
	"slices"
	"strings"
	"testing"

	"weir/api"
	"weir/lex"
	"weir/parse"
	"weir/show"
	"weir/tree"
)

// heads: the nodes above others, each operator among them, without their kids.
func heads() (ones, twos []api.Row) {
	ones = []api.Row{{Kind: 5, Kids: 1, Dur: "1h"}, {Kind: 6, Kids: 1, Op: "-"}, {Kind: 8, Kids: 1, Op: "f"}, {Kind: 9, Kids: 1, Op: "sum"}}
	for _, op := range operators() {
		twos = append(twos, api.Row{Kind: 7, Kids: 2, Op: op})
	}
	return ones, twos
}

// allTrees: all trees of these nodes over a, up to that depth.
func allTrees(depth int) [][]api.Row {
	list := [][]api.Row{plainly("a")}
	if depth == 1 {
		return list
	}
	below := allTrees(depth - 1)
	ones, twos := heads()
	for _, r := range ones {
		for _, x := range below {
			list = append(list, append([]api.Row{r}, x...))
		}
	}
	for _, r := range twos {
		for _, x := range below {
			for _, y := range below {
				list = append(list, slices.Concat([]api.Row{r}, x, y))
			}
		}
	}
	return list
}

// P15.1, P15.4 and P15.5: all small trees; no two of them have one text.
func TestAllSmall(t *testing.T) {
	seen := map[string]int{}
	for i, rows := range allTrees(3) {
		got := agree(t, rows)
		if first, yes := seen[got]; yes {
			t.Fatalf("%q is the text of the trees %d and %d", got, first, i)
		}
		seen[got] = i
	}
	if len(seen) < 5000 {
		t.Errorf("%d trees", len(seen))
	}
}

// P15.5: of all choices of brackets about nodes with which the text is read as the tree, none has fewer than Show's.
func TestFewest(t *testing.T) {
	f := newForest(2)
	list := allTrees(3)
	for i, rows := range list {
		if i%3 > 0 {
			continue
		}
		fewest(t, rows)
	}
	for range 400 {
		ones, twos := heads()
		rows := slices.Concat([]api.Row{pick(f, twos)}, pick(f, list[:200]), append([]api.Row{pick(f, ones)}, pick(f, list[:400])...))
		if len(rows) < 10 {
			fewest(t, rows)
		}
	}
}

func fewest(t *testing.T, rows []api.Row) {
	t.Helper()
	x := built(t, rows)
	got := show.Show(x)
	_, least := pieces(rows)
	for choice := range 1 << (len(rows) - 1) {
		kid := 0
		w := teller{rows: rows, brackets: func(api.Row, int, int) bool {
			kid++
			return choice>>(kid-1)&1 == 1
		}}
		text := joined(w.next(), 0)
		y, _, e := parse.Parse(text)
		if e != api.OK || !tree.Same(x, y) {
			if text == got {
				t.Fatalf("%q is read as another tree", text)
			}
		} else if w.pairs < least {
			t.Fatalf("%q says as much as %q", text, got)
		} else if again := show.Show(y); again != got {
			t.Fatalf("Show of %q is %q; want %q", text, again, got)
		}
	}
}

// P15.1, P15.4 and P15.5: trees by chance, of all kinds of nodes.
func TestByChance(t *testing.T) {
	f := newForest(3)
	nodes := 0
	for i := range 4000 {
		rows := f.tree(1 + i%7)
		agree(t, rows)
		nodes = max(nodes, len(rows))
	}
	if nodes < 60 {
		t.Errorf("%d nodes at the most", nodes)
	}
}

// P15.4: no two trees have one text: one field changed is another text.
func TestOtherTreeOtherText(t *testing.T) {
	f := newForest(4)
	count := 0
	for i := range 1500 {
		rows := f.tree(1 + i%5)
		other := slices.Clone(rows)
		k := f.dice.IntN(len(rows))
		r := f.tree(2)[0]
		if r.Kind != rows[k].Kind || r.Kids != rows[k].Kids {
			continue
		}
		other[k] = r
		x, y := built(t, rows), built(t, other)
		if got, text := show.Show(x), show.Show(y); tree.Same(x, y) != (got == text) {
			t.Fatalf("%q and %q: the same tree is %v", got, text, tree.Same(x, y))
		}
		count++
	}
	if count < 100 {
		t.Errorf("%d pairs", count)
	}
}

// A loose writer writes a tree in any of the ways in which it may be written.
type loose struct {
	dice *rand.Rand
	rows []api.Row
}

func (w *loose) yes(one int) bool { return w.dice.IntN(one) == 0 }

func (w *loose) one(list ...string) string { return list[w.dice.IntN(len(list))] }

// keyword: in either case.
func (w *loose) keyword(s string) string {
	return w.one(s, s, strings.ToUpper(s), strings.ToUpper(s[:1])+s[1:])
}

// literal: a text with any of the three quotes that may tell it.
func (w *loose) literal(s string) string {
	switch {
	case w.yes(3) && !strings.Contains(s, "`"):
		return "`" + s + "`"
	case w.yes(3) && !strings.ContainsAny(s, "'\"\\"):
		lit := quoted(s)
		return "'" + lit[1:len(lit)-1] + "'"
	}
	return quoted(s)
}

func (w *loose) names(list []string) string {
	text := strings.Join(list, w.one(",", " , ", ", "))
	if len(list) > 0 && w.yes(3) {
		text += ","
	}
	return "( " + text + " )"
}

func (w *loose) when(m api.When) string {
	at, offset := "", ""
	if m.At == "start" || m.At == "end" {
		at = " @ " + m.At + w.one("()", " ( )")
	} else if m.At != "" {
		at = w.one(" @ ", "@") + m.At
	}
	if m.Offset != "" {
		offset = " " + w.keyword("offset") + " " + strings.Replace(m.Offset, "-", w.one("-", "- "), 1)
	}
	return w.one(at+offset, offset+at)
}

func (w *loose) plain(r api.Row) string {
	var all []string
	for _, m := range r.Matchers {
		all = append(all, m.Name+w.one("", " ")+strings.Fields("= != =~ !~")[m.Op-1]+w.one("", "\n")+w.literal(m.Value))
	}
	if len(all) == 0 && r.Text != "" && w.yes(2) {
		return r.Text
	}
	text := strings.Join(all, w.one(",", " ,\t"))
	if len(all) > 0 && w.yes(3) {
		text += ","
	}
	return r.Text + w.one("{", " { ") + text + w.one("}", " }")
}

// next: the tree at the head of the rows that are left, in brackets if it must be, or by chance.
func (w *loose) next(must bool) string {
	text := w.node()
	for must || w.yes(4) {
		text, must = w.one("(", "( ", "(# (\n")+text+w.one(")", "\n)"), false
	}
	return text
}

func (w *loose) node() string {
	r := w.rows[0]
	w.rows = w.rows[1:]
	level := func() int { return rank(w.rows[0]) }
	switch r.Kind {
	case 2:
		return w.literal(r.Text)
	case 3:
		return w.plain(r) + w.when(r.When)
	case 4:
		kid := w.rows[0]
		w.rows = w.rows[1:]
		return w.plain(kid) + w.one("[", " [ ") + r.Dur + w.one("]", " ] ") + w.when(kid.When)
	case 5:
		return w.next(enclosed(r, 0, level())) + w.one("[", " [ ") + r.Dur + w.one(":", " : ") + r.Step + w.one("]", " ]") + w.when(r.When)
	case 6:
		return r.Op + w.one("", " ") + w.next(enclosed(r, 0, level()))
	case 7:
		return w.binary(r)
	case 8:
		return r.Op + w.one("", " ") + w.arguments(r.Kids)
	case 9:
		return w.aggregate(r)
	}
	return r.Text
}

func (w *loose) binary(r api.Row) string {
	parts := []string{w.next(enclosed(r, 0, rank(w.rows[0]))), w.keyword(r.Op)}
	if r.Bool {
		parts = append(parts, w.keyword("bool"))
	}
	m := r.Matching
	if m.Given {
		parts = append(parts, w.keyword(map[bool]string{true: "on", false: "ignoring"}[m.On])+w.one("", " ")+w.names(m.Labels))
	}
	right := w.next(enclosed(r, 1, rank(w.rows[0])))
	if m.Card > 0 {
		parts = append(parts, w.keyword([]string{"", "group_left", "group_right"}[m.Card]))
		if len(m.Include) > 0 || strings.HasPrefix(right, "(") || w.yes(2) {
			parts = append(parts, w.names(m.Include))
		}
	}
	return strings.Join(append(parts, right), w.one(" ", "\n", "  "))
}

func (w *loose) arguments(n int) string {
	var all []string
	for range n {
		all = append(all, w.next(false))
	}
	return "(" + strings.Join(all, w.one(",", " , ")) + ")"
}

func (w *loose) aggregate(r api.Row) string {
	grouping := w.keyword(map[bool]string{true: "without", false: "by"}[r.Without]) + w.one("", " ") + w.names(r.Labels)
	args := w.arguments(r.Kids)
	switch {
	case !r.Without && len(r.Labels) == 0 && w.yes(2):
		return w.keyword(r.Op) + w.one("", " ") + args
	case w.yes(2):
		return w.keyword(r.Op) + w.one("", " ") + args + " " + grouping
	}
	return w.keyword(r.Op) + " " + grouping + w.one("", " ") + args
}

// P15.4: whatever way a text is written, Show of what is read of it is the tree's one text.
func TestLooseTexts(t *testing.T) {
	f := newForest(5)
	other := 0
	for i := range 3000 {
		rows := f.tree(1 + i%6)
		w := loose{dice: f.dice, rows: rows}
		q := w.next(false)
		x := parsed(t, q)
		if !tree.Same(x, built(t, rows)) {
			t.Fatalf("%q isn't the tree of %+v", q, rows)
		}
		got := show.Show(x)
		if want := shown(rows); got != want {
			t.Fatalf("Show of %q is %q; want %q", q, got, want)
		}
		back(t, x, got)
		if got != q {
			other++
		}
	}
	if other < 1500 {
		t.Errorf("only %d texts are written otherwise than Show's", other)
	}
}

// P15.4: what is shown has no token more than what was read, but for the brackets behind group_left and group_right.
func TestNoTokenMore(t *testing.T) {
	f := newForest(6)
	count := func(text string) int {
		toks, _, _ := lex.Scan(text)
		return len(toks)
	}
	for i := range 1000 {
		w := loose{dice: f.dice, rows: f.tree(1 + i%5)}
		q := w.next(false)
		got := show.Show(parsed(t, q))
		spare := 2 * (strings.Count(got, "group_left()") + strings.Count(got, "group_right()"))
		if count(got) > count(q)+spare {
			t.Fatalf("%q becomes %q", q, got)
		}
	}
}

// chain: n nodes of one kind below each other, on at the kid of that number, a at the others, and the last rows below them.
func chain(n int, r api.Row, way int, last []api.Row) []api.Row {
	var head, tail []api.Row
	for range n {
		head = append(head, r)
		for k := range r.Kids {
			if k < way {
				head = append(head, plainly("a")...)
			} else if k > way {
				tail = append(tail, plainly("a")...)
			}
		}
	}
	return slices.Concat(head, last, tail)
}

// tops: a node of each sort that has kids.
func tops() []api.Row {
	wide := api.Matching{Given: true, On: true, Labels: []string{"x"}, Card: 2, Include: []string{"y", "z"}}
	ones, twos := heads()
	return slices.Concat(ones, twos, []api.Row{
		{Kind: 5, Kids: 1, Dur: "1h", Step: "5m", When: api.When{At: "start", Offset: "-1m"}},
		{Kind: 7, Kids: 2, Op: "<", Bool: true, Matching: wide},
		{Kind: 7, Kids: 2, Op: "^", Matching: wide},
		{Kind: 8, Kids: 3, Op: "g"},
		{Kind: 9, Kids: 2, Op: "topk", Without: true, Labels: []string{"x"}},
	})
}

// P15.1, P15.4 and P15.5, and P1, rule 1: trees of the greatest depth, along each way down, with all brackets that there may be.
func TestDeepest(t *testing.T) {
	for _, r := range tops() {
		for way := range r.Kids {
			agree(t, chain(api.MaxDepth-1, r, way, plainly("a")))
			deep(t, chain(api.MaxDepth-2, r, way, window("5m", plainly("a"))), api.MaxDepth)
			for i, other := range tops() {
				if i%2 == 0 && other.Kids < 3 {
					pair := func(last []api.Row) []api.Row {
						return chain(1, r, way, chain(1, other, other.Kids-1, last))
					}
					rows := plainly("a")
					for range api.MaxDepth/2 - 1 {
						rows = pair(rows)
					}
					deep(t, rows, api.MaxDepth-1)
				}
			}
		}
	}
}

// deep: as agree, with two of the brackets left out alone.
func deep(t *testing.T, rows []api.Row, depth int) {
	t.Helper()
	x := built(t, rows)
	if tree.Depth(x) != depth {
		t.Fatalf("depth %d", tree.Depth(x))
	}
	got := show.Show(x)
	all, pairs := pieces(rows)
	if want := joined(all, 0); got != want {
		t.Fatalf("Show = %q; want %q", got, want)
	}
	back(t, x, got)
	for _, pair := range []int{1, pairs} {
		if y, _, e := parse.Parse(joined(all, pair)); pairs > 0 && e == api.OK && tree.Same(x, y) {
			t.Fatalf("%q says as much as %q", joined(all, pair), got)
		}
	}
}

// P15.4: texts that are just as long as MaxText are read back; one byte more is shown too, but not read.
func TestLongestTexts(t *testing.T) {
	const n = api.MaxText
	for _, c := range []struct {
		what string
		rows func(more int) []api.Row
	}{
		{"a string of quotes", func(more int) []api.Row { return unary("-", text(strings.Repeat(`"`, n/2-2)+strings.Repeat("x", 1+more))) }},
		{"a name", func(more int) []api.Row { return binary("+", plainly(strings.Repeat("n", n-4+more)), number("1")) }},
		{"a matcher", func(more int) []api.Row {
			return selector("", api.When{At: "end"}, api.Matcher{Name: "a", Op: 3, Value: strings.Repeat("é", (n-16)/2) + strings.Repeat("x", 1+more)})
		}},
		{"a list", func(more int) []api.Row {
			return aggregate("sum", true, []string{strings.Repeat("l", n-len("sum without() (a)")+more)}, plainly("a"))
		}},
	} {
		for more := range 2 {
			x := built(t, c.rows(more))
			got := show.Show(x)
			if len(got) != n+more {
				t.Fatalf("%s: %d bytes", c.what, len(got))
			}
			y, place, e := parse.Parse(got)
			if more == 0 && (e != api.OK || !tree.Same(x, y) || show.Show(y) != got) {
				t.Errorf("%s of MaxText bytes: %d at %d", c.what, e, place)
			}
			if more == 1 && e != api.ErrLong {
				t.Errorf("%s of one byte more: %d", c.what, e)
			}
		}
	}
}

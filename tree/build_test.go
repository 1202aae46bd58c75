package tree_test

import (
	"fmt"
	"runtime"
	"slices"
	"strings"
	"testing"

	"weir/api"
	"weir/tree"
)

// agree holds Build and Rows against the chapter's words, and answers the tree and whether there is one.
func agree(t *testing.T, rows []api.Row) (api.Tree, bool) {
	t.Helper()
	x, e := tree.Build(rows)
	if want := fault(rows); e != want {
		t.Fatalf("Build(%q) = %d, want %d", lines(rows), e, want)
	}
	if e != api.OK {
		if x.Root != nil {
			t.Fatalf("Build(%q) answers %s beside %d", lines(rows), told(x.Root), e)
		}
		return x, false
	}
	if want, _ := nested(rows); told(x.Root) != want {
		t.Fatalf("Build(%q) is %s", lines(rows), told(x.Root))
	}
	if got := tree.Rows(x); !slices.Equal(lines(got), lines(rows)) {
		t.Fatalf("Rows of Build(%q) = %q", lines(rows), lines(got))
	}
	return x, true
}

// built: the tree of rows that must be a tree's.
func built(t *testing.T, rows ...api.Row) api.Tree {
	t.Helper()
	x, ok := agree(t, rows)
	if !ok {
		t.Fatalf("Build(%q) is refused", lines(rows))
	}
	return x
}

func minus(n int, behind ...api.Row) []api.Row {
	return append(slices.Repeat([]api.Row{{Kind: 6, Kids: 1, Op: "-"}}, n), behind...)
}

// P12.1: the chapter's examples.
func TestBuildExamples(t *testing.T) {
	one := api.Row{Kind: 1, Text: "1"}
	for i, c := range []struct {
		rows []api.Row
		e    api.Errno
	}{
		{[]api.Row{{Kind: 7, Kids: 2, Op: "+"}, one, {Kind: 3, Text: "up"}}, api.OK},
		{[]api.Row{{Kind: 4, Kids: 1, Dur: "5m"}, {Kind: 3, Text: "up", When: api.When{Offset: "-1h", At: "end"}}}, api.OK},
		{[]api.Row{{Kind: 8, Op: "time"}}, api.OK},
		{[]api.Row{{Kind: 3}}, api.OK},
		{[]api.Row{{Kind: 3, Text: "up", When: api.When{At: "1e3"}}}, api.OK},
		{minus(127, one), api.OK},
		{minus(128, one), api.ErrDepth},
		{nil, api.ErrShape},
		{[]api.Row{}, api.ErrShape},
		{[]api.Row{{Kind: 1, Text: "-1"}}, api.ErrShape},
		{[]api.Row{{Kind: 3, Text: "sum"}}, api.ErrShape},
		{[]api.Row{{Kind: 3, Text: "Inf"}}, api.ErrShape},
		{[]api.Row{one, {Kind: 1, Text: "2"}}, api.ErrShape},
		{[]api.Row{{Kind: 6, Kids: 1, Op: "-"}}, api.ErrShape},
		{[]api.Row{{Kind: 4, Kids: 1, Dur: "5m"}, one}, api.ErrShape},
		{[]api.Row{{Kind: 8, Op: "by"}}, api.ErrShape},
		{[]api.Row{{Kind: 1, Text: "1", Dur: "5m"}}, api.ErrShape},
	} {
		if _, e := tree.Build(c.rows); e != c.e {
			t.Errorf("example %d: %d, want %d", i, e, c.e)
		}
		agree(t, c.rows)
	}
	for _, s := range []string{"5m", "1h30m", "0x1F", "Inf", "NaN", "1e3"} {
		built(t, api.Row{Kind: 1, Text: s})
	}
}

// P12.1: each node is of its type, with what its row says in each of its fields.
func TestBuildNodes(t *testing.T) {
	up := api.Row{Kind: 3, Text: "up", Matchers: []api.Matcher{{Name: "a", Op: 3, Value: "x.*"}}, When: api.When{Offset: "5m", At: "start"}}
	call := built(t, api.Row{Kind: 8, Kids: 2, Op: "f"}, api.Row{Kind: 2, Text: "x"}, api.Row{Kind: 1, Text: "0x1F"}).Root.(*api.Call)
	if call.Name != "f" || len(call.Args) != 2 || call.Args[0].(*api.Text).Value != "x" || call.Args[1].(*api.Number).Lexeme != "0x1F" {
		t.Error("the call")
	}
	r := built(t, api.Row{Kind: 4, Kids: 1, Dur: "1h"}, up).Root.(*api.Range)
	if s := r.Of; r.Dur != "1h" || s.Name != "up" || s.Offset != "5m" || s.At != "start" || !slices.Equal(s.Matchers, up.Matchers) {
		t.Error("the range")
	}
	q := built(t, api.Row{Kind: 5, Kids: 1, Dur: "1h", Step: "2m", When: api.When{Offset: "-3m", At: "4"}}, up).Root.(*api.Subquery)
	if q.Dur != "1h" || q.Step != "2m" || q.Offset != "-3m" || q.At != "4" || q.X.(*api.Selector).Name != "up" {
		t.Error("the subquery")
	}
	u := built(t, api.Row{Kind: 6, Kids: 1, Op: "+"}, up).Root.(*api.Unary)
	if u.Op != "+" || u.X.(*api.Selector).Name != "up" {
		t.Error("the unary node")
	}
	b := built(t, api.Row{Kind: 7, Kids: 2, Op: ">=", Bool: true, Matching: api.Matching{Given: true, On: true, Labels: []string{"l"}, Card: api.CardLeft, Include: []string{"i"}}}, up, api.Row{Kind: 1, Text: "1"}).Root.(*api.Binary)
	if b.Op != ">=" || !b.Bool || !b.Given || !b.On || b.Labels[0] != "l" || b.Card != api.CardLeft || b.Include[0] != "i" || b.X.(*api.Selector).Name != "up" || b.Y.(*api.Number).Lexeme != "1" {
		t.Error("the binary node")
	}
	a := built(t, api.Row{Kind: 9, Kids: 2, Op: "topk", Without: true, Labels: []string{"l"}}, api.Row{Kind: 1, Text: "3"}, up).Root.(*api.Aggregate)
	if a.Op != "topk" || !a.Without || a.Labels[0] != "l" || a.Param.(*api.Number).Lexeme != "3" || a.X.(*api.Selector).Name != "up" {
		t.Error("the aggregate with a parameter")
	}
	a = built(t, api.Row{Kind: 9, Kids: 1, Op: "topk"}, up).Root.(*api.Aggregate)
	if a.Param != nil || a.X.(*api.Selector).Name != "up" {
		t.Error("the aggregate without a parameter")
	}
}

// P12.1 and P12.2: each field of each kind of row, set to what it may hold and to what it may not.
func TestRowsSound(t *testing.T) {
	sound, not := 0, 0
	for _, r := range samples() {
		built(t, withKids(r)...)
		for other := range changed(r) {
			if _, ok := agree(t, withKids(other)); ok {
				sound++
			} else {
				not++
			}
		}
	}
	if sound < 1000 || not < 15000 {
		t.Errorf("%d rows are sound, %d aren't", sound, not)
	}
}

// P12.1: two fields changed at one time.
func TestRowsTwoFields(t *testing.T) {
	f := newForest(1)
	all := changes()
	sound := 0
	for range 20000 {
		r := f.pick(1 + f.dice.IntN(9))
		for range 2 {
			all[f.dice.IntN(len(all))](&r)
		}
		if _, ok := agree(t, withKids(r)); ok {
			sound++
		}
	}
	if sound < 150 {
		t.Errorf("%d rows are sound", sound)
	}
}

// P12.1: names may be as long as a text that is scanned, and no longer; labels' names and values have no such bound.
func TestRowsLongNames(t *testing.T) {
	long := strings.Repeat("n", api.MaxText)
	for _, c := range []struct {
		row api.Row
		e   api.Errno
	}{
		{api.Row{Kind: 3, Text: long}, api.OK},
		{api.Row{Kind: 3, Text: long + "n"}, api.ErrShape},
		{api.Row{Kind: 3, Text: long[1:] + ":"}, api.OK},
		{api.Row{Kind: 8, Op: long}, api.OK},
		{api.Row{Kind: 8, Op: long + "n"}, api.ErrShape},
		{api.Row{Kind: 8, Op: long[1:] + ":"}, api.ErrShape},
		{api.Row{Kind: 1, Text: strings.Repeat("1", api.MaxText+1)}, api.ErrShape},
		{api.Row{Kind: 2, Text: long + "n"}, api.OK},
		{api.Row{Kind: 3, Matchers: []api.Matcher{{Name: long + "n", Op: 1, Value: long + "n"}}}, api.OK},
	} {
		x, e := tree.Build([]api.Row{c.row})
		if e != c.e || e == api.OK && !slices.EqualFunc(tree.Rows(x), []api.Row{c.row}, sameLong) {
			t.Errorf("a row of the kind %d with %d and %d bytes: %d", c.row.Kind, len(c.row.Text), len(c.row.Op), e)
		}
	}
}

// sameLong: rows as above, which are too long to be told.
func sameLong(a, b api.Row) bool {
	return a.Kind == b.Kind && a.Text == b.Text && a.Op == b.Op && slices.Equal(a.Matchers, b.Matchers)
}

// P1, rule 1: a long text that is no token is refused without being cut up.
func TestLongTextsAreCheap(t *testing.T) {
	text := strings.Repeat("+1 ", api.MaxText/3)
	for _, r := range []api.Row{{Kind: 1, Text: text}, {Kind: 3, Text: text}, {Kind: 4, Kids: 1, Dur: text}, {Kind: 8, Op: text}, {Kind: 3, When: api.When{At: text}}, {Kind: 3, When: api.When{Offset: "-" + text}}} {
		var before, after runtime.MemStats
		runtime.ReadMemStats(&before)
		_, e := tree.Build(withKids(r))
		runtime.ReadMemStats(&after)
		if grown := after.TotalAlloc - before.TotalAlloc; e != api.ErrShape || grown > 3*api.MaxText {
			t.Errorf("a row of the kind %d: %d, with %d bytes", r.Kind, e, grown)
		}
	}
}

// P12.1 and P12.2: trees of all kinds, and rows that are a tree's nearly.
func TestBuildRandom(t *testing.T) {
	f := newForest(2)
	trees, refused := 0, 0
	for i := range 4000 {
		built(t, f.tree(1+i%6)...)
		if _, ok := agree(t, f.wild(1+i%6)); ok {
			trees++
		} else {
			refused++
		}
	}
	if trees < 500 || refused < 1500 {
		t.Errorf("%d are trees, %d aren't", trees, refused)
	}
}

// P12.1: all lists of up to five rows of four kinds, with all numbers of kids that there can be.
func TestBuildShapes(t *testing.T) {
	parts := []api.Row{{Kind: 1, Text: "1"}, {Kind: 3, Text: "up"}, {Kind: 4, Kids: 1, Dur: "5m"}, {Kind: 6, Kids: 1, Op: "-"}, {Kind: 7, Kids: 2, Op: "+"}, {Kind: 8, Op: "f"}, {Kind: 8, Kids: 3, Op: "f"}, {Kind: 9, Kids: 2, Op: "sum"}}
	trees := 0
	var grow func(rows []api.Row)
	grow = func(rows []api.Row) {
		if _, ok := agree(t, rows); ok {
			trees++
		}
		if len(rows) == 5 {
			return
		}
		for _, r := range parts {
			grow(append(slices.Clone(rows), r))
		}
	}
	grow(nil)
	if trees < 300 {
		t.Errorf("%d trees", trees)
	}
}

// chain: n nodes of one kind below each other, and the last rows below them. Kids that aren't on the way down are plain.
func chain(n int, r api.Row, way int, last ...api.Row) []api.Row {
	var head, tail []api.Row
	for range n {
		head = append(head, r)
		for k := range r.Kids {
			if k < way {
				head = append(head, api.Row{Kind: 1, Text: "1"})
			} else if k > way {
				tail = append(tail, api.Row{Kind: 3, Text: "up"})
			}
		}
	}
	return slices.Concat(head, last, tail)
}

// P12.1 and P12.3: depth MaxDepth and one more, along each way down that there is.
func TestBuildDepth(t *testing.T) {
	number, rng := []api.Row{{Kind: 1, Text: "1"}}, []api.Row{{Kind: 4, Kids: 1, Dur: "5m"}, {Kind: 3, Text: "up"}}
	for _, r := range []api.Row{{Kind: 5, Kids: 1, Dur: "5m"}, {Kind: 6, Kids: 1, Op: "+"}, {Kind: 7, Kids: 2, Op: "-"}, {Kind: 8, Kids: 1, Op: "f"}, {Kind: 8, Kids: 3, Op: "f"}, {Kind: 9, Kids: 1, Op: "sum"}, {Kind: 9, Kids: 2, Op: "sum"}} {
		for way := range r.Kids {
			for _, last := range [][]api.Row{number, rng} {
				for n := 125; n <= 130; n++ {
					rows := chain(n, r, way, last...)
					x, e := tree.Build(rows)
					depth := n + len(last)
					if want := fault(rows); e != want || (e == api.OK) != (depth <= 128) || e == api.OK && tree.Depth(x) != depth {
						t.Errorf("%d rows of the kind %d, on at kid %d: %d", n, r.Kind, way, e)
					}
				}
			}
		}
	}
}

// P1, rule 2: ErrShape comes ahead of ErrDepth, wherever the fault stands.
func TestShapeAheadOfDepth(t *testing.T) {
	one := api.Row{Kind: 1, Text: "1"}
	for _, rows := range [][]api.Row{minus(128), minus(128, one, one), minus(128, api.Row{Kind: 1, Text: "x"}), minus(128, api.Row{Kind: 4, Kids: 1, Dur: "5m"}, one), append([]api.Row{{Kind: 7, Kids: 2, Op: "+"}}, minus(128, one)...), append([]api.Row{{Kind: 7, Kids: 2, Op: "+"}}, minus(128, one, api.Row{Kind: 1})...)} {
		if _, e := tree.Build(rows); e != api.ErrShape || fault(rows) != e {
			t.Errorf("%d rows: %d", len(rows), e)
		}
	}
	if _, e := tree.Build(append([]api.Row{{Kind: 7, Kids: 2, Op: "+"}}, minus(128, one, one)...)); e != api.ErrDepth {
		t.Errorf("a tree that is too deep: %d", e)
	}
}

// P12.2: what Rows answers of a tree builds the same tree again.
func TestRowsBack(t *testing.T) {
	f := newForest(3)
	for i := range 1000 {
		x := built(t, f.tree(1+i%7)...)
		again, e := tree.Build(tree.Rows(x))
		if e != api.OK || !tree.Same(again, x) || told(again.Root) != told(x.Root) {
			t.Fatalf("%s comes back as %s", told(x.Root), told(again.Root))
		}
	}
	if rows := tree.Rows(api.Tree{}); len(rows) != 0 {
		t.Errorf("Rows of the empty tree: %q", lines(rows))
	}
	if s := fmt.Sprint(tree.Rows(built(t, samples()[0]))); s != "[{1 0  1 []   { } false {false false [] 0 []} false []}]" {
		t.Error(s)
	}
}

package tree_test

import (
	"fmt"
	"math"
	"runtime"
	"slices"
	"strings"
	"sync"
	"testing"
	"unsafe"

	"weir/api"
	"weir/tree"
)

// spoilTexts writes over a list of texts, its spare room too.
func spoilTexts(list []string) {
	list = list[:cap(list)]
	for i := range list {
		list[i] = "spoiled"
	}
}

func spoilMatchers(list []api.Matcher) {
	list = list[:cap(list)]
	for i := range list {
		list[i] = api.Matcher{Name: "spoiled", Op: -1, Value: "spoiled"}
	}
}

func spoilRow(r *api.Row) {
	spoilTexts(r.Labels)
	spoilTexts(r.Matching.Labels)
	spoilTexts(r.Matching.Include)
	spoilMatchers(r.Matchers)
	*r = api.Row{Kind: -1, Kids: -1, Op: "spoiled"}
}

func spoilRows(rows []api.Row) {
	rows = rows[:cap(rows)]
	for i := range rows {
		spoilRow(&rows[i])
	}
}

// nodesOf: all nodes of a tree.
func nodesOf(node api.Expr) []api.Expr {
	list := []api.Expr{node}
	switch n := node.(type) {
	case *api.Range:
		list = append(list, nodesOf(n.Of)...)
	case *api.Subquery:
		list = append(list, nodesOf(n.X)...)
	case *api.Unary:
		list = append(list, nodesOf(n.X)...)
	case *api.Binary:
		list = slices.Concat(list, nodesOf(n.X), nodesOf(n.Y))
	case *api.Call:
		for _, kid := range n.Args {
			list = append(list, nodesOf(kid)...)
		}
	case *api.Aggregate:
		if n.Param != nil {
			list = append(list, nodesOf(n.Param)...)
		}
		list = append(list, nodesOf(n.X)...)
	}
	return list
}

// spoilTree writes over all that a tree is made of, but leaves each node's kids, so that the tree is one still.
func spoilTree(x api.Tree) {
	for _, node := range nodesOf(x.Root) {
		switch n := node.(type) {
		case *api.Number:
			n.Lexeme = "99"
		case *api.Text:
			n.Value = "spoiled"
		case *api.Selector:
			spoilMatchers(n.Matchers)
			n.Name, n.Matchers, n.When = "spoiled", nil, api.When{Offset: "9h", At: "9"}
		case *api.Range:
			n.Dur = "9h"
		case *api.Subquery:
			n.Dur, n.Step, n.When = "9h", "9h", api.When{Offset: "9h", At: "9"}
		case *api.Unary:
			n.Op = "+"
		case *api.Binary:
			spoilTexts(n.Labels)
			spoilTexts(n.Include)
			n.Op, n.Bool, n.Matching = "%", !n.Bool, api.Matching{}
			n.X, n.Y = n.Y, n.X
		case *api.Call:
			n.Name = "spoiled"
			slices.Reverse(n.Args)
		case *api.Aggregate:
			spoilTexts(n.Labels)
			n.Op, n.Without, n.Labels = "min", !n.Without, nil
		}
	}
}

// A stretch of memory, from its first byte to behind its last.
type stretch struct {
	from, to uintptr
}

// memory: the stretches that things take up, and the things themselves, so that nothing newer comes to lie there.
type memory struct {
	all  []stretch
	kept []any
}

func (m *memory) piece(p unsafe.Pointer, size uintptr) {
	if size > 0 && p != nil {
		m.all = append(m.all, stretch{uintptr(p), uintptr(p) + size})
	}
}

func (m *memory) texts(list ...string) {
	for _, s := range list {
		m.piece(unsafe.Pointer(unsafe.StringData(s)), uintptr(len(s)))
	}
	m.kept = append(m.kept, list)
}

func listOf[T any](m *memory, list []T) {
	var one T
	m.piece(unsafe.Pointer(unsafe.SliceData(list)), uintptr(cap(list))*unsafe.Sizeof(one))
	m.kept = append(m.kept, list)
}

func (m *memory) names(list []string) {
	listOf(m, list)
	m.texts(list...)
}

func (m *memory) matchers(list []api.Matcher) {
	listOf(m, list)
	for _, k := range list {
		m.texts(k.Name, k.Value)
	}
}

func (m *memory) row(r api.Row) {
	m.texts(r.Op, r.Text, r.Dur, r.Step, r.When.Offset, r.When.At)
	m.matchers(r.Matchers)
	m.names(r.Labels)
	m.names(r.Matching.Labels)
	m.names(r.Matching.Include)
}

func (m *memory) rows(rows []api.Row) {
	listOf(m, rows)
	for _, r := range rows {
		m.row(r)
	}
}

func (m *memory) selector(s api.Selector) {
	m.row(api.Row{Text: s.Name, Matchers: s.Matchers, When: s.When})
}

func nodeAt[T any](m *memory, n *T) {
	m.piece(unsafe.Pointer(n), unsafe.Sizeof(*n))
	m.kept = append(m.kept, n)
}

func (m *memory) tree(x api.Tree) {
	for _, node := range nodesOf(x.Root) {
		switch n := node.(type) {
		case *api.Number:
			nodeAt(m, n)
			m.texts(n.Lexeme)
		case *api.Text:
			nodeAt(m, n)
			m.texts(n.Value)
		case *api.Selector:
			nodeAt(m, n)
			m.selector(*n)
		case *api.Range:
			nodeAt(m, n)
			m.texts(n.Dur)
		case *api.Subquery:
			nodeAt(m, n)
			m.texts(n.Dur, n.Step, n.Offset, n.At)
		case *api.Unary:
			nodeAt(m, n)
			m.texts(n.Op)
		case *api.Binary:
			nodeAt(m, n)
			m.texts(n.Op)
			m.names(n.Labels)
			m.names(n.Include)
		case *api.Call:
			nodeAt(m, n)
			m.texts(n.Name)
			listOf(m, n.Args)
		case *api.Aggregate:
			nodeAt(m, n)
			m.texts(n.Op)
			m.names(n.Labels)
		}
	}
}

// shared: two stretches that share a byte.
func (m *memory) shared() (string, bool) {
	slices.SortFunc(m.all, func(a, b stretch) int {
		if a.from < b.from {
			return -1
		}
		return 1
	})
	for i := 1; i < len(m.all); i++ {
		if m.all[i].from < m.all[i-1].to {
			return fmt.Sprint(m.all[i-1], m.all[i]), true
		}
	}
	return "", false
}

// own: rows in memory of their own, with spare room that holds marks.
func own(rows []api.Row) []api.Row {
	names := func(list []string) []string {
		made := make([]string, 0, len(list)+3)
		for _, s := range list {
			made = append(made, strings.Clone(s))
		}
		copy(made[len(list):cap(made)], []string{"mark", "mark", "mark"})
		return made
	}
	made := make([]api.Row, 0, len(rows)+2)
	for _, r := range rows {
		ms := make([]api.Matcher, 0, len(r.Matchers)+2)
		for _, k := range r.Matchers {
			ms = append(ms, api.Matcher{Name: strings.Clone(k.Name), Op: k.Op, Value: strings.Clone(k.Value)})
		}
		copy(ms[len(ms):cap(ms)], []api.Matcher{{Name: "mark", Op: 1}, {Name: "mark", Op: 1}})
		made = append(made, api.Row{Kind: r.Kind, Kids: r.Kids, Op: strings.Clone(r.Op), Text: strings.Clone(r.Text), Matchers: ms, Dur: strings.Clone(r.Dur), Step: strings.Clone(r.Step),
			When: api.When{Offset: strings.Clone(r.When.Offset), At: strings.Clone(r.When.At)}, Bool: r.Bool,
			Matching: api.Matching{Given: r.Matching.Given, On: r.Matching.On, Labels: names(r.Matching.Labels), Card: r.Matching.Card, Include: names(r.Matching.Include)}, Without: r.Without, Labels: names(r.Labels)})
	}
	copy(made[len(made):cap(made)], []api.Row{{Kind: 1, Text: "1"}, {Kind: 1, Text: "1"}})
	return made
}

// room: rows with all that lies in the spare room of their lists.
func room(rows []api.Row) string {
	rows = rows[:cap(rows)]
	out := fmt.Sprint(lines(rows))
	for _, r := range rows {
		out += fmt.Sprintln(r.Labels[:cap(r.Labels)], r.Matching.Labels[:cap(r.Matching.Labels)], r.Matching.Include[:cap(r.Matching.Include)], r.Matchers[:cap(r.Matchers)])
	}
	return out
}

// full: rows of one tree with all kinds of nodes, and nothing left empty that may be filled.
func full() []api.Row {
	up := api.Row{Kind: 3, Text: "up", Matchers: []api.Matcher{{Name: "a", Op: 1, Value: "x"}, {Name: "b", Op: 4, Value: "y.*"}}, When: api.When{Offset: "-1h", At: "end"}}
	return []api.Row{
		{Kind: 7, Kids: 2, Op: "==", Bool: true, Matching: api.Matching{Given: true, On: true, Labels: []string{"la", "lb"}, Card: 1, Include: []string{"ic", "id"}}},
		{Kind: 9, Kids: 2, Op: "topk", Without: true, Labels: []string{"la", "lb"}},
		{Kind: 1, Text: "1h30m"},
		{Kind: 5, Kids: 1, Dur: "1h", Step: "5m", When: api.When{Offset: "7m", At: "1e3"}},
		up,
		{Kind: 8, Kids: 3, Op: "label_join"},
		{Kind: 6, Kids: 1, Op: "-"},
		{Kind: 4, Kids: 1, Dur: "5m"},
		up,
		{Kind: 2, Text: "text"},
		{Kind: 9, Kids: 1, Op: "sum", Labels: []string{"la"}},
		up,
	}
}

// P12.8 and P1, rule 5: trees, rows and selectors share no memory with each other, with what was handed in, or within themselves.
func TestAnswersShareNothing(t *testing.T) {
	rows := own(full())
	var m memory
	m.rows(rows)
	x := built(t, rows...)
	y := built(t, rows...)
	m.tree(x)
	m.tree(y)
	for range 2 {
		m.rows(tree.Rows(x))
		list := tree.Selectors(x)
		listOf(&m, list)
		for _, s := range list {
			m.selector(s)
		}
		m.tree(tree.Map(x, nil))
		m.tree(tree.Map(x, func(s api.Selector) api.Selector {
			m.selector(s)
			return api.Selector{Name: "sum"}
		}))
		m.tree(tree.Map(x, func(s api.Selector) api.Selector {
			m.selector(s)
			return s
		}))
		all := tree.Walk(x)
		for range 2 {
			for _, r := range all {
				m.row(r)
			}
		}
	}
	given := api.Selector{Name: strings.Clone("given"), Matchers: []api.Matcher{{Name: strings.Clone("gn"), Op: 2, Value: strings.Clone("gv")}}, When: api.When{Offset: strings.Clone("8m"), At: strings.Clone("88")}}
	m.selector(given)
	m.tree(tree.Map(x, func(api.Selector) api.Selector { return given }))
	if two, yes := m.shared(); yes {
		t.Errorf("the stretches %s share memory", two)
	}
	if len(m.all) < 600 {
		t.Errorf("%d stretches", len(m.all))
	}
	runtime.KeepAlive(m.kept)
}

// P1, rule 5, and P12.8: rows stay as they are, their spare room too, and what that room holds counts for nothing.
func TestBuildLeavesRows(t *testing.T) {
	f := newForest(13)
	for i := range 300 {
		rows := own(f.wild(1 + i%5))
		before := room(rows)
		agree(t, rows)
		if after := room(rows); after != before {
			t.Fatalf("Build left %s of %s", after, before)
		}
	}
}

// P12.8: no call changes the tree that it is handed.
func TestTreesStay(t *testing.T) {
	x := built(t, full()...)
	before := told(x.Root)
	tree.Rows(x)
	tree.Depth(x)
	tree.Nodes(x)
	tree.Same(x, x)
	tree.Selectors(x)
	for _, turn := range turns() {
		tree.Map(x, turn)
	}
	walked(tree.Walk(x))
	if after := told(x.Root); after != before {
		t.Errorf("%s has become %s", before, after)
	}
}

// P12.8 and P1, rule 5: rows, trees, selectors and lists that are written over after the call, and answers too.
func TestAnswersSpoiled(t *testing.T) {
	f := newForest(14)
	for i := range 300 {
		rows := f.tree(1 + i%6)
		if i == 0 {
			rows = full()
		}
		want, _ := nested(rows)
		given := own(rows)
		x, _ := tree.Build(given)
		spoilRows(given)
		copies := []api.Tree{tree.Map(x, nil), tree.Map(x, func(s api.Selector) api.Selector { return s })}
		told1, told2 := tree.Rows(x), tree.Rows(x)
		picked1, picked2 := tree.Selectors(x), tree.Selectors(x)
		spoilRows(told1)
		for k := range picked1 {
			spoilMatchers(picked1[k].Matchers)
		}
		clear(picked1[:cap(picked1)])
		if got := told(x.Root); got != want {
			t.Fatalf("the tree of %q has become %s", lines(rows), got)
		}
		spoilTree(x)
		if !slices.Equal(lines(told2), lines(rows)) || !slices.Equal(lines(asRows(picked2)), lines(picked(rows))) {
			t.Fatalf("the rows of %q have become %q", lines(rows), lines(told2))
		}
		spoilTree(copies[0])
		if got := told(copies[1].Root); got != want {
			t.Fatalf("the second tree of %q has become %s", lines(rows), got)
		}
	}
}

// P12.8 and P12.6: what turn was handed, and what it answered, written over later.
func TestMapSpoiledLater(t *testing.T) {
	x := built(t, full()...)
	before := told(x.Root)
	var handed, answered []api.Selector
	y := tree.Map(x, func(s api.Selector) api.Selector {
		handed = append(handed, s)
		made := api.Selector{Name: "made", Matchers: append(make([]api.Matcher, 0, 4), s.Matchers...)}
		answered = append(answered, made)
		return made
	})
	z := tree.Map(x, func(s api.Selector) api.Selector {
		handed = append(handed, s)
		return s
	})
	afterY, afterZ := told(y.Root), told(z.Root)
	if afterY == before || afterZ != before || len(handed) != 6 || len(answered) != 3 {
		t.Fatal("nothing to be seen")
	}
	for _, s := range slices.Concat(handed, answered) {
		spoilMatchers(s.Matchers)
	}
	if told(x.Root) != before || told(y.Root) != afterY || told(z.Root) != afterZ {
		t.Error("what turn was handed, or answered, is a part of a tree")
	}
}

// overwritten: texts in memory that is the caller's own, and a call that writes over them.
type overwritten struct {
	held [][]byte
}

func (o *overwritten) text(s string) string {
	b := []byte(s)
	o.held = append(o.held, b)
	return unsafe.String(unsafe.SliceData(b), len(b))
}

func (o *overwritten) spoil() {
	for _, b := range o.held {
		for i := range b {
			b[i] = '?'
		}
	}
}

// P1, rule 5: a tree doesn't lie in the memory of the texts that it was made of.
func TestTreesOutliveTexts(t *testing.T) {
	var o overwritten
	names := func(list []string) []string {
		var made []string
		for _, s := range list {
			made = append(made, o.text(s))
		}
		return made
	}
	rows := full()
	for i := range rows {
		r := &rows[i]
		r.Op, r.Text, r.Dur, r.Step, r.When = o.text(r.Op), o.text(r.Text), o.text(r.Dur), o.text(r.Step), api.When{Offset: o.text(r.When.Offset), At: o.text(r.When.At)}
		r.Labels, r.Matching.Labels, r.Matching.Include = names(r.Labels), names(r.Matching.Labels), names(r.Matching.Include)
		for k, m := range r.Matchers {
			r.Matchers[k] = api.Matcher{Name: o.text(m.Name), Op: m.Op, Value: o.text(m.Value)}
		}
	}
	x, e := tree.Build(rows)
	y := tree.Map(x, func(s api.Selector) api.Selector {
		return api.Selector{Name: o.text("made"), Matchers: []api.Matcher{{Name: o.text("n"), Op: 1, Value: o.text("v")}}, When: api.When{Offset: o.text("9m"), At: o.text("9")}}
	})
	o.spoil()
	if want, _ := nested(full()); e != api.OK || told(x.Root) != want {
		t.Errorf("after a change of the texts, the tree is %s", told(x.Root))
	}
	made := api.Row{Kind: 3, Text: "made", Matchers: []api.Matcher{{Name: "n", Op: 1, Value: "v"}}, When: api.When{Offset: "9m", At: "9"}}
	if got := lines(asRows(tree.Selectors(y))); len(o.held) < 60 || !slices.Equal(got, lines([]api.Row{made, made, made})) {
		t.Errorf("after a change of the texts, the selectors are %q", got)
	}
}

// P1, rule 1: no call panics, whatever rows there are.
func TestTotal(t *testing.T) {
	f := newForest(15)
	bad := []api.Row{{}, {Kind: math.MinInt, Kids: math.MinInt}, {Kind: math.MaxInt, Kids: math.MaxInt}, {Kind: 8, Kids: math.MaxInt, Op: "f"}, {Kind: 8, Kids: math.MinInt, Op: "f"}, {Kind: 9, Kids: math.MaxInt, Op: "sum"}, {Kind: 4, Kids: 1, Dur: "5m"}, {Kind: 4, Dur: "5m"}}
	for i := range 3000 {
		rows := f.wild(1 + i%4)
		for range f.dice.IntN(4) {
			rows = slices.Insert(rows, f.dice.IntN(len(rows)+1), bad[f.dice.IntN(len(bad))])
		}
		askAll(rows)
	}
	for _, r := range bad {
		for n := range 4 {
			if _, e := tree.Build(slices.Repeat([]api.Row{r}, n)); e != api.ErrShape {
				t.Errorf("%d rows %q: %d", n, lines([]api.Row{r}), e)
			}
		}
	}
}

// askAll asks every call.
func askAll(rows []api.Row) string {
	x, e := tree.Build(rows)
	y := tree.Map(x, func(s api.Selector) api.Selector { s.Name = "turned"; return s })
	return fmt.Sprint(e, lines(tree.Rows(x)), tree.Depth(x), tree.Nodes(x), tree.Same(x, y), tree.Same(x, x), lines(asRows(tree.Selectors(y))), lines(tree.Rows(y)), walked(tree.Walk(x)))
}

// P1, rule 1: each call ends with many rows, beside each other and below each other.
func TestTotalMany(t *testing.T) {
	const n = 100000
	rows := append([]api.Row{{Kind: 8, Kids: n, Op: "f"}}, slices.Repeat([]api.Row{{Kind: 3, Text: "up"}}, n)...)
	x, e := tree.Build(rows)
	if e != api.OK || tree.Nodes(x) != n+1 || tree.Depth(x) != 2 || len(tree.Rows(x)) != n+1 || len(tree.Selectors(x)) != n {
		t.Errorf("a call of %d kids: %d", n, e)
	}
	y := tree.Map(x, func(s api.Selector) api.Selector { s.Name = "down"; return s })
	if last := tree.Selectors(y)[n-1]; last.Name != "down" || tree.Same(x, y) || !tree.Same(x, tree.Map(x, nil)) {
		t.Error("a call of many kids turned")
	}
	count := 0
	for range tree.Walk(x) {
		count++
	}
	if count != n+1 {
		t.Errorf("Walk gives %d", count)
	}
	for _, few := range []int{n - 1, n + 1} {
		rows[0].Kids = few
		if _, e := tree.Build(rows); e != api.ErrShape {
			t.Errorf("%d rows for %d kids: %d", n, few, e)
		}
	}
	one := api.Row{Kind: 1, Text: "1"}
	if _, e := tree.Build(minus(n, one)); e != api.ErrDepth {
		t.Errorf("%d signs: %d", n, e)
	}
	if _, e := tree.Build(minus(n)); e != api.ErrShape {
		t.Errorf("%d signs over nothing: %d", n, e)
	}
	if _, e := tree.Build(append([]api.Row{{Kind: 8, Kids: math.MaxInt, Op: "f"}}, minus(n, one)...)); e != api.ErrShape {
		t.Errorf("too few kids: %d", e)
	}
	if _, e := tree.Build(slices.Repeat([]api.Row{{Kind: 8, Kids: math.MaxInt, Op: "f"}}, n)); e != api.ErrShape {
		t.Errorf("too few kids, and again: %d", e)
	}
	names := slices.Repeat([]string{"a"}, n)
	wide := api.Row{Kind: 7, Kids: 2, Op: "+", Matching: api.Matching{Given: true, Labels: names, Card: 2, Include: names}}
	if x, e := tree.Build([]api.Row{wide, one, one}); e != api.OK || !slices.Equal(tree.Rows(x)[0].Matching.Include, names) {
		t.Errorf("%d labels: %d", n, e)
	}
}

// P1, rule 4, and P12.3 to P12.7: of the empty tree each call answers nothing.
func TestEmptyTree(t *testing.T) {
	turn := func(s api.Selector) api.Selector { t.Error("turn is called"); return s }
	if x := tree.Map(api.Tree{}, turn); x != (api.Tree{}) || len(tree.Rows(x)) != 0 || tree.Depth(x) != 0 || tree.Nodes(x) != 0 || len(tree.Selectors(x)) != 0 || !tree.Same(x, x) || len(walked(tree.Walk(x))) != 0 {
		t.Error("the empty tree")
	}
}

// P1, rule 6, and P2: the same question has the same answer, whatever was asked between.
func TestSameAnswerAgain(t *testing.T) {
	f := newForest(16)
	var asked [][]api.Row
	var want []string
	for i := range 200 {
		asked = append(asked, f.wild(1+i%5))
		want = append(want, askAll(asked[i]))
	}
	for i := range asked {
		if got := askAll(asked[len(asked)-1-i]); got != want[len(asked)-1-i] {
			t.Fatalf("%s, and later %s", want[len(asked)-1-i], got)
		}
	}
}

// P1, rule 10: calls beside each other answer what they would have answered alone, over one tree too.
func TestBesideEachOther(t *testing.T) {
	f := newForest(17)
	var asked [][]api.Row
	var want []string
	for i := range 100 {
		asked = append(asked, f.wild(1+i%5))
		want = append(want, askAll(asked[i]))
	}
	x := built(t, full()...)
	before := told(x.Root)
	var all sync.WaitGroup
	for g := range 8 {
		all.Go(func() {
			for i := range asked {
				k := (i*(2*g+1) + g) % len(asked)
				if got := askAll(asked[k]); got != want[k] {
					t.Errorf("%s, and beside others %s", want[k], got)
				}
				y := tree.Map(x, func(s api.Selector) api.Selector { s.Name = fmt.Sprint("g", g); return s })
				if list := tree.Selectors(y); list[2].Name != fmt.Sprint("g", g) || tree.Same(x, y) || len(walked(tree.Walk(x))) != len(full()) {
					t.Errorf("Map beside others: %v", list)
				}
			}
		})
	}
	all.Wait()
	if told(x.Root) != before {
		t.Error("the tree has changed")
	}
}

package tree_test

import (
	"slices"
	"testing"

	"weir/api"
	"weir/tree"
)

// P12.3: depth and nodes of the chapter's examples, of one row of each kind, and of the empty tree.
func TestDepthAndNodes(t *testing.T) {
	one, up, rng := api.Row{Kind: 1, Text: "1"}, api.Row{Kind: 3, Text: "up"}, api.Row{Kind: 4, Kids: 1, Dur: "5m"}
	plus, top := api.Row{Kind: 7, Kids: 2, Op: "+"}, api.Row{Kind: 9, Kids: 2, Op: "topk"}
	for i, c := range []struct {
		rows         []api.Row
		depth, nodes int
	}{
		{[]api.Row{plus, one, up}, 2, 3},
		{[]api.Row{rng, up}, 2, 2},
		{minus(127, one), 128, 128},
		{[]api.Row{one}, 1, 1},
		{[]api.Row{{Kind: 2, Text: "x"}}, 1, 1},
		{[]api.Row{up}, 1, 1},
		{[]api.Row{{Kind: 5, Kids: 1, Dur: "5m"}, up}, 2, 2},
		{[]api.Row{{Kind: 6, Kids: 1, Op: "-"}, up}, 2, 2},
		{[]api.Row{{Kind: 8, Op: "time"}}, 1, 1},
		{[]api.Row{{Kind: 8, Kids: 3, Op: "f"}, one, rng, up, one}, 3, 5},
		{[]api.Row{{Kind: 9, Kids: 1, Op: "sum"}, rng, up}, 3, 3},
		{[]api.Row{top, plus, one, one, up}, 3, 5},
		{[]api.Row{top, one, plus, up, up}, 3, 5},
		{[]api.Row{plus, plus, one, plus, one, one, one}, 4, 7},
	} {
		x := built(t, c.rows...)
		if d, n := tree.Depth(x), tree.Nodes(x); d != c.depth || n != c.nodes {
			t.Errorf("tree %d: depth %d, %d nodes", i, d, n)
		}
	}
	if d, n := tree.Depth(api.Tree{}), tree.Nodes(api.Tree{}); d != 0 || n != 0 {
		t.Errorf("the empty tree: depth %d, %d nodes", d, n)
	}
}

// P12.3: depth and nodes of many trees.
func TestDepthAndNodesRandom(t *testing.T) {
	f := newForest(4)
	for i := range 2000 {
		rows := f.tree(1 + i%8)
		x := built(t, rows...)
		_, depth := first(rows)
		if d, n := tree.Depth(x), tree.Nodes(x); d != depth || n != len(rows) {
			t.Fatalf("%q: depth %d, %d nodes", lines(rows), d, n)
		}
	}
}

// P12.4: rows of one kind that differ in one field alone, each against each; the same rows make the same tree.
func TestSameOneField(t *testing.T) {
	var byKind [10][]api.Row
	for _, r := range soundRows() {
		byKind[r.Kind] = append(byKind[r.Kind], r)
	}
	for kind, rows := range byKind {
		var trees []api.Tree
		var keys []string
		for _, r := range rows {
			trees = append(trees, built(t, withKids(r)...))
			keys = append(keys, lines([]api.Row{r})[0])
		}
		if kind > 0 && len(rows) < 2 {
			t.Errorf("%d rows of the kind %d", len(rows), kind)
		}
		for i, x := range trees {
			if !tree.Same(x, built(t, withKids(rows[i])...)) {
				t.Fatalf("%s isn't the same as itself", keys[i])
			}
			for k, y := range trees {
				if tree.Same(x, y) != (i == k) {
					t.Fatalf("Same of %s and %s", keys[i], keys[k])
				}
			}
		}
	}
}

// P12.4: texts count byte by byte.
func TestSameTexts(t *testing.T) {
	for _, c := range [][2]api.Row{
		{{Kind: 1, Text: "1"}, {Kind: 1, Text: "1.0"}},
		{{Kind: 1, Text: "60s"}, {Kind: 1, Text: "1m"}},
		{{Kind: 1, Text: "Inf"}, {Kind: 1, Text: "inf"}},
		{{Kind: 1, Text: "NaN"}, {Kind: 1, Text: "nan"}},
		{{Kind: 2, Text: "e\u0301"}, {Kind: 2, Text: "\u00e9"}},
		{{Kind: 2, Text: "1"}, {Kind: 1, Text: "1"}},
		{{Kind: 3, Text: "up"}, {Kind: 3, Text: "Up"}},
		{{Kind: 3, Text: "up"}, {Kind: 3, Matchers: []api.Matcher{{Name: "__name__", Op: 1, Value: "up"}}}},
		{{Kind: 3, Text: "up"}, {Kind: 8, Op: "up"}},
	} {
		x, y := built(t, c[0]), built(t, c[1])
		if tree.Same(x, y) || tree.Same(y, x) || !tree.Same(x, x) || !tree.Same(y, y) {
			t.Errorf("Same of %q", lines(c[:]))
		}
	}
}

// P12.4: an empty list and nil count as one; the order and the number of what stands in a list count.
func TestSameLists(t *testing.T) {
	none, empty := api.Row{Kind: 9, Kids: 1, Op: "sum"}, api.Row{Kind: 9, Kids: 1, Op: "sum", Labels: []string{}}
	bare, hollow := api.Row{Kind: 3, Text: "up"}, api.Row{Kind: 3, Text: "up", Matchers: []api.Matcher{}}
	on := api.Row{Kind: 7, Kids: 2, Op: "+", Matching: api.Matching{Given: true}}
	onEmpty := api.Row{Kind: 7, Kids: 2, Op: "+", Matching: api.Matching{Given: true, Labels: []string{}, Include: []string{}}}
	x := built(t, on, none, bare, none, bare)
	y := built(t, onEmpty, empty, hollow, empty, hollow)
	if !tree.Same(x, y) || !tree.Same(y, x) {
		t.Error("an empty list and nil")
	}
	// A tree whose lists are empty and not nil, as another maker of trees may leave them.
	b := x.Root.(*api.Binary)
	b.Labels, b.Include = []string{}, []string{}
	b.X.(*api.Aggregate).Labels, b.X.(*api.Aggregate).X.(*api.Selector).Matchers = []string{}, []api.Matcher{}
	if !tree.Same(x, y) || !tree.Same(y, x) {
		t.Error("an empty list and nil in a tree")
	}
	lists := [][]string{nil, {"a"}, {"b"}, {"a", "b"}, {"b", "a"}, {"a", "a"}, {"a", "b", "a"}}
	for i, one := range lists {
		for k, other := range lists {
			p, q := none, none
			p.Labels, q.Labels = one, other
			if tree.Same(built(t, p, bare), built(t, q, bare)) != (i == k) {
				t.Errorf("labels %q and %q", one, other)
			}
		}
	}
}

// P12.4: whole trees, each against each, and the empty tree.
func TestSameTrees(t *testing.T) {
	f := newForest(5)
	var trees []api.Tree
	var keys []string
	for i := range 150 {
		rows := f.tree(1 + i%4)
		trees, keys = append(trees, built(t, rows...), built(t, rows...)), append(keys, told(built(t, rows...).Root), told(built(t, rows...).Root))
	}
	trees, keys = append(trees, api.Tree{}), append(keys, "none")
	same := 0
	for i, x := range trees {
		for k, y := range trees {
			if tree.Same(x, y) != (keys[i] == keys[k]) {
				t.Fatalf("Same of %s and %s", keys[i], keys[k])
			}
			if keys[i] == keys[k] {
				same++
			}
		}
	}
	if same < 601 || same == len(trees)*len(trees) {
		t.Errorf("%d pairs are the same", same)
	}
}

// P12.4: a tree that is the head of another, and trees whose rows differ in the last alone.
func TestSameHeads(t *testing.T) {
	one, f2 := api.Row{Kind: 1, Text: "1"}, api.Row{Kind: 8, Kids: 2, Op: "f"}
	x := built(t, f2, one, one)
	for _, rows := range [][]api.Row{{one}, {{Kind: 8, Kids: 1, Op: "f"}, one}, {{Kind: 8, Kids: 3, Op: "f"}, one, one, one}, {f2, one, {Kind: 1, Text: "2"}}, {f2, {Kind: 8, Kids: 1, Op: "f"}, one, one}} {
		if y := built(t, rows...); tree.Same(x, y) || tree.Same(y, x) {
			t.Errorf("f(1, 1) and %q", lines(rows))
		}
	}
	f1 := api.Row{Kind: 8, Kids: 1, Op: "f"}
	if y, z := built(t, f2, f1, one, one), built(t, f1, f2, one, one); tree.Same(y, z) || tree.Same(z, y) {
		t.Error("f(f(1), 1) and f(f(1, 1)), whose rows differ in Kids alone")
	}
	if tree.Same(x, api.Tree{}) || tree.Same(api.Tree{}, x) || !tree.Same(api.Tree{}, api.Tree{}) {
		t.Error("the empty tree")
	}
}

// picked: the selectors that stand in rows.
func picked(rows []api.Row) []api.Row {
	return slices.DeleteFunc(slices.Clone(rows), func(r api.Row) bool { return r.Kind != 3 })
}

// asRows: selectors as rows.
func asRows(list []api.Selector) []api.Row {
	var rows []api.Row
	for _, s := range list {
		rows = append(rows, api.Row{Kind: 3, Text: s.Name, Matchers: s.Matchers, When: s.When})
	}
	return rows
}

// P12.5: the selectors in the order of the rows, those of ranges too, each as often as it stands there.
func TestSelectors(t *testing.T) {
	a, b := api.Row{Kind: 3, Text: "a", Matchers: []api.Matcher{{Name: "x", Op: 2, Value: "y"}}}, api.Row{Kind: 3, Text: "b", When: api.When{Offset: "5m", At: "7"}}
	rng, plus := api.Row{Kind: 4, Kids: 1, Dur: "5m"}, api.Row{Kind: 7, Kids: 2, Op: "+"}
	x := built(t, plus, plus, b, rng, a, api.Row{Kind: 9, Kids: 2, Op: "sum"}, b, api.Row{Kind: 8, Kids: 3, Op: "f"}, api.Row{Kind: 1, Text: "1"}, rng, b, a)
	if got, want := lines(asRows(tree.Selectors(x))), lines([]api.Row{b, a, b, b, a}); !slices.Equal(got, want) {
		t.Errorf("the selectors are %q", got)
	}
	for _, rows := range [][]api.Row{{{Kind: 1, Text: "1"}}, {{Kind: 8, Op: "time"}}} {
		if list := tree.Selectors(built(t, rows...)); len(list) != 0 {
			t.Errorf("the selectors of %q: %v", lines(rows), list)
		}
	}
	if list := tree.Selectors(api.Tree{}); len(list) != 0 {
		t.Errorf("the selectors of the empty tree: %v", list)
	}
	f := newForest(6)
	for i := range 1000 {
		rows := f.tree(1 + i%6)
		if got, want := lines(asRows(tree.Selectors(built(t, rows...)))), lines(picked(rows)); !slices.Equal(got, want) {
			t.Fatalf("the selectors of %q are %q", lines(rows), got)
		}
	}
}

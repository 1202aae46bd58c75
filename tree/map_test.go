package tree_test

import (
	"slices"
	"strconv"
	"testing"

	"weir/api"
	"weir/tree"
)

// asSelector: a selector's row as a selector.
func asSelector(r api.Row) api.Selector {
	return api.Selector{Name: r.Text, Matchers: r.Matchers, When: r.When}
}

// turned: the rows with each selector replaced by what turn makes of it, if that is sound.
func turned(rows []api.Row, turn func(api.Selector) api.Selector) []api.Row {
	out := slices.Clone(rows)
	for i, r := range out {
		if r.Kind == 3 {
			s := asSelector(r)
			s.Matchers = slices.Clone(s.Matchers)
			if made := asRows([]api.Selector{turn(s)})[0]; rowSound(made) {
				out[i] = made
			}
		}
	}
	return out
}

// turns: what one may do to a selector.
func turns() []func(api.Selector) api.Selector {
	return []func(api.Selector) api.Selector{
		func(s api.Selector) api.Selector { return s },
		func(api.Selector) api.Selector { return api.Selector{} },
		func(s api.Selector) api.Selector { s.Name = "down"; return s },
		func(s api.Selector) api.Selector { s.Name += "x"; return s },
		func(s api.Selector) api.Selector { s.Name = "sum"; return s },
		func(s api.Selector) api.Selector {
			s.Matchers = append(s.Matchers, api.Matcher{Name: "tenant", Op: 3, Value: "a"})
			return s
		},
		func(s api.Selector) api.Selector {
			s.Matchers = append(s.Matchers, api.Matcher{Name: "tenant", Op: 5, Value: "a"})
			return s
		},
		func(s api.Selector) api.Selector {
			for i := range s.Matchers {
				s.Matchers[i] = api.Matcher{Name: "spoiled", Op: 9, Value: "\xff"}
			}
			return s
		},
		func(s api.Selector) api.Selector { s.Matchers = s.Matchers[:0]; return s },
		func(s api.Selector) api.Selector { s.Offset, s.At = s.At, s.Offset; return s },
		func(s api.Selector) api.Selector { s.Offset = "5m"; return s },
		func(s api.Selector) api.Selector { s.At = "start"; return s },
		func(s api.Selector) api.Selector { s.Offset = "5"; return s },
		func(s api.Selector) api.Selector { s.At = "5m"; return s },
	}
}

// mapped holds Map against the chapter's words.
func mapped(t *testing.T, rows []api.Row, turn func(api.Selector) api.Selector) {
	t.Helper()
	x := built(t, rows...)
	y := tree.Map(x, turn)
	if want := turned(rows, turn); !slices.Equal(lines(tree.Rows(y)), lines(want)) {
		t.Fatalf("Map of %q is %q, want %q", lines(rows), lines(tree.Rows(y)), lines(want))
	}
	if !slices.Equal(lines(tree.Rows(x)), lines(rows)) {
		t.Fatalf("Map left %q of %q", lines(tree.Rows(x)), lines(rows))
	}
	if tree.Depth(x) != tree.Depth(y) || tree.Nodes(x) != tree.Nodes(y) {
		t.Fatalf("Map of %q has another depth or number of nodes", lines(rows))
	}
}

// P12.6: each selector is replaced by what turn makes of it, if that is sound, and nothing else is changed.
func TestMapTurns(t *testing.T) {
	f := newForest(7)
	for i := range 500 {
		for _, turn := range turns() {
			mapped(t, f.tree(1+i%5), turn)
		}
	}
}

// P12.6: a selector that turn answers stands in the tree just where its row is sound, whichever field it is in which it isn't.
func TestMapSoundOrNot(t *testing.T) {
	rows := []api.Row{{Kind: 4, Kids: 1, Dur: "5m"}, {Kind: 3, Text: "old", Matchers: []api.Matcher{{Name: "o", Op: 1, Value: "p"}}}}
	x := built(t, rows...)
	replaced, left := 0, 0
	for _, r := range samples() {
		if r.Kind != 3 {
			continue
		}
		for other := range changed(r) {
			made := asSelector(other)
			row := asRows([]api.Selector{made})[0]
			want := rows[1]
			if rowSound(row) {
				want = row
				replaced++
			} else {
				left++
			}
			y := tree.Map(x, func(api.Selector) api.Selector { return made })
			if got := lines(tree.Rows(y)); !slices.Equal(got, lines([]api.Row{rows[0], want})) {
				t.Fatalf("turned into %q: %q", lines([]api.Row{row}), got)
			}
		}
	}
	if replaced < 300 || left < 300 {
		t.Errorf("%d are replaced, %d left", replaced, left)
	}
}

// P12.6: turn is called once for each selector, in the order of the rows, with that selector; what it answered of one counts for no other.
func TestMapCalls(t *testing.T) {
	f := newForest(8)
	most := 0
	for i := range 1000 {
		rows := f.tree(1 + i%6)
		x := built(t, rows...)
		var handed []api.Selector
		y := tree.Map(x, func(s api.Selector) api.Selector {
			handed = append(handed, api.Selector{Name: s.Name, Matchers: slices.Clone(s.Matchers), When: s.When})
			if len(handed)%3 == 0 {
				return api.Selector{Name: "by"}
			}
			return api.Selector{Name: "n" + strconv.Itoa(len(handed))}
		})
		if !slices.Equal(lines(asRows(handed)), lines(picked(rows))) {
			t.Fatalf("turn was handed %q of %q", lines(asRows(handed)), lines(rows))
		}
		for k, s := range tree.Selectors(y) {
			if (k+1)%3 != 0 && s.Name != "n"+strconv.Itoa(k+1) || (k+1)%3 == 0 && s.Name != handed[k].Name {
				t.Fatalf("selector %d of %q is %q", k, lines(rows), s.Name)
			}
		}
		most = max(most, len(handed))
	}
	if most < 10 {
		t.Errorf("at most %d selectors", most)
	}
}

// P12.6: a nil turn leaves all as they were; of the empty tree nothing is turned.
func TestMapNothing(t *testing.T) {
	f := newForest(9)
	for i := range 300 {
		x := built(t, f.tree(1+i%5)...)
		if y := tree.Map(x, nil); !tree.Same(x, y) || told(x.Root) != told(y.Root) {
			t.Fatalf("a nil turn makes %s of %s", told(y.Root), told(x.Root))
		}
	}
	count := 0
	turn := func(s api.Selector) api.Selector { count++; return s }
	if tree.Map(api.Tree{}, turn).Root != nil || tree.Map(api.Tree{}, nil).Root != nil {
		t.Error("Map of the empty tree has a root")
	}
	tree.Map(built(t, api.Row{Kind: 7, Kids: 2, Op: "+"}, api.Row{Kind: 1, Text: "1"}, api.Row{Kind: 2}), turn)
	if count != 0 {
		t.Errorf("turn was called %d times without a selector", count)
	}
}

// P12.6 and P12.8: what turn does to the tree that is mapped doesn't show in what is answered, nor in what it is handed.
func TestMapTurnSpoilsTheTree(t *testing.T) {
	rows := []api.Row{{Kind: 7, Kids: 2, Op: "+"}, {Kind: 3, Text: "a", Matchers: []api.Matcher{{Name: "x", Op: 1, Value: "y"}}}, {Kind: 4, Kids: 1, Dur: "5m"}, {Kind: 3, Text: "b", Matchers: []api.Matcher{{Name: "x", Op: 1, Value: "y"}}}}
	x := built(t, rows...)
	var names []string
	y := tree.Map(x, func(s api.Selector) api.Selector {
		spoilTree(x)
		names = append(names, s.Name)
		return s
	})
	if !slices.Equal(names, []string{"a", "b"}) || !slices.Equal(lines(tree.Rows(y)), lines(rows)) {
		t.Errorf("turn was handed %q; the tree is %q", names, lines(tree.Rows(y)))
	}
}

// P12.6: Map may be called out of turn.
func TestMapNested(t *testing.T) {
	x := built(t, api.Row{Kind: 7, Kids: 2, Op: "+"}, api.Row{Kind: 3, Text: "a"}, api.Row{Kind: 3, Text: "b"})
	inner := 0
	y := tree.Map(x, func(s api.Selector) api.Selector {
		z := tree.Map(x, func(k api.Selector) api.Selector { inner++; k.Name += s.Name; return k })
		return tree.Selectors(z)[1]
	})
	if list := tree.Selectors(y); inner != 4 || list[0].Name != "ba" || list[1].Name != "bb" {
		t.Errorf("%d inner calls, %v", inner, list)
	}
}

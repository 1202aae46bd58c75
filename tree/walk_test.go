package tree_test

import (
	"fmt"
	"iter"
	"slices"
	"testing"

	"weir/api"
	"weir/tree"
)

// walked: all that an iterator gives, as texts.
func walked(all iter.Seq2[int, api.Row]) []string {
	var list []string
	for depth, r := range all {
		list = append(list, fmt.Sprint(depth, " ", lines([]api.Row{r})[0]))
	}
	return list
}

// depths: the depth of each row's node, as texts with the rows.
func depths(rows []api.Row, depth int) (list []string, size int) {
	list, size = []string{fmt.Sprint(depth, " ", lines(rows[:1])[0])}, 1
	for range rows[0].Kids {
		kid, n := depths(rows[size:], depth+1)
		list, size = append(list, kid...), size+n
	}
	return list, size
}

// P12.7: the chapter's example.
func TestWalkExample(t *testing.T) {
	rows := []api.Row{{Kind: 9, Kids: 1, Op: "sum", Labels: []string{"a"}}, {Kind: 4, Kids: 1, Dur: "5m"}, {Kind: 3, Text: "up"}}
	var ds []int
	var got []api.Row
	for depth, r := range tree.Walk(built(t, rows...)) {
		ds, got = append(ds, depth), append(got, r)
	}
	if !slices.Equal(ds, []int{1, 2, 3}) || !slices.Equal(lines(got), lines(rows)) {
		t.Errorf("depths %v, rows %q", ds, lines(got))
	}
}

// P12.7: depth and row of each node, in the order of the rows; gone over again, and each time anew.
func TestWalkRandom(t *testing.T) {
	f := newForest(10)
	for i := range 1000 {
		rows := f.tree(1 + i%7)
		all := tree.Walk(built(t, rows...))
		want, _ := depths(rows, 1)
		for range 2 {
			if got := walked(all); !slices.Equal(got, want) {
				t.Fatalf("Walk of %q gives %q", lines(rows), got)
			}
		}
	}
}

// P12.7: a loop that ends early ends it at once, wherever it stands; the next one begins anew.
func TestWalkLeft(t *testing.T) {
	f := newForest(11)
	for i := range 200 {
		rows := f.tree(2 + i%4)
		all := tree.Walk(built(t, rows...))
		want, _ := depths(rows, 1)
		for stop := 1; stop <= len(rows); stop++ {
			calls := 0
			var got []string
			all(func(depth int, r api.Row) bool {
				calls++
				got = append(got, fmt.Sprint(depth, " ", lines([]api.Row{r})[0]))
				return calls < stop
			})
			if calls != stop || !slices.Equal(got, want[:stop]) {
				t.Fatalf("Walk of %q, left at %d: %d calls, %q", lines(rows), stop, calls, got)
			}
		}
	}
}

// P12.7: one iterator gone over inside itself, and pulled from by two at a time.
func TestWalkNested(t *testing.T) {
	rows := []api.Row{{Kind: 7, Kids: 2, Op: "+"}, {Kind: 6, Kids: 1, Op: "-"}, {Kind: 1, Text: "1"}, {Kind: 3, Text: "up"}}
	all := tree.Walk(built(t, rows...))
	want, _ := depths(rows, 1)
	n := 0
	for depth, r := range all {
		if got := fmt.Sprint(depth, " ", lines([]api.Row{r})[0]); got != want[n] {
			t.Errorf("outside, %d: %s", n, got)
		}
		if got := walked(all); !slices.Equal(got, want) {
			t.Errorf("inside: %q", got)
		}
		n++
	}
	one, stop := iter.Pull2(all)
	other, halt := iter.Pull2(all)
	defer stop()
	defer halt()
	for range want {
		d1, r1, ok1 := one()
		d2, r2, ok2 := other()
		if d1 != d2 || !ok1 || !ok2 || r1.Kind != r2.Kind {
			t.Errorf("pulled: %d %v, %d %v", d1, ok1, d2, ok2)
		}
	}
	if _, _, more := one(); n != 4 || more {
		t.Errorf("%d rows, more: %v", n, more)
	}
}

// P12.7: of the empty tree Walk gives nothing.
func TestWalkEmpty(t *testing.T) {
	if got := walked(tree.Walk(api.Tree{})); len(got) != 0 {
		t.Errorf("%q", got)
	}
}

// P12.7 and P12.8: what is done to the tree between the call and the loop doesn't show, nor what is done to a row.
func TestWalkSpoiled(t *testing.T) {
	f := newForest(12)
	for i := range 200 {
		rows := f.tree(1 + i%5)
		x := built(t, rows...)
		all := tree.Walk(x)
		want := walked(all)
		spoilTree(x)
		n := 0
		for depth, r := range all {
			if got := fmt.Sprint(depth, " ", lines([]api.Row{r})[0]); got != want[n] {
				t.Fatalf("after a change of the tree, Walk of %q gives %s", lines(rows), got)
			}
			spoilRow(&r)
			n++
		}
		if got := walked(all); n != len(want) || !slices.Equal(got, want) {
			t.Fatalf("after a change of the rows, Walk of %q gives %q", lines(rows), got)
		}
	}
}

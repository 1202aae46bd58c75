package labels_test

import (
	"math"
	"slices"
	"testing"

	"weir/api"
	"weir/labels"
)

// P16.2: the chapter's examples of Compare, and the edges that its words name: one list the beginning of another, the same names with other values.
func TestCompareExamples(t *testing.T) {
	for _, c := range []struct {
		a, b []api.Label
		want int
	}{
		{set("a", "1"), set("a", "1", "b", "2"), -1},
		{set("a", "2"), set("a", "1", "b", "2"), 1},
		{nil, []api.Label{}, 0},
		{nil, set("a", "1"), -1},
		{nil, set("", ""), -1},
		{set("a", "1", "b", "2"), set("a", "1", "b", "2"), 0},
		{set("a", "1", "b", "2"), set("a", "1", "b", "3"), -1},
		{set("a", "1", "b", "2"), set("a", "1", "c", "1"), -1},
		{set("a", "1"), set("a", "10"), -1},
		{set("a", "10"), set("a", "2"), -1},
		{set("a", "9", "b", "1"), set("a", "10", "c", "1"), 1},
		{set("a", "1"), set("aa", "0"), -1},
		{set("A", "9"), set("a", "1"), -1},
		{set("Z", "1"), set("__name__", "a"), -1},
		{set("a", "z"), set("a", "é"), -1},
		{set("a", "\xff"), set("a", "é"), 1},
		{set("b", "1", "a", "1"), set("a", "1", "b", "1"), 1},
		{set("a", "", "b", ""), set("a", "", "a", "9"), 1},
		{set("a", "b"), set("ab", ""), -1},
		{set("a", "\x00"), set("a", ""), 1},
	} {
		if got := labels.Compare(c.a, c.b); got != c.want {
			t.Errorf("Compare(%q, %q) = %d; want %d", c.a, c.b, got, c.want)
		}
		if got := labels.Compare(c.b, c.a); got != -c.want {
			t.Errorf("Compare(%q, %q) = %d; want %d", c.b, c.a, got, -c.want)
		}
	}
}

// P16.2: Compare is an order: over all pairs and triples of small lists.
func TestCompareSmall(t *testing.T) {
	lists := small(pairsOf([]string{"a", "ab", "b"}, []string{"", "1", "10"}), 2)
	rank := make([][]int, len(lists))
	for i, a := range lists {
		for j, b := range lists {
			got := labels.Compare(a, b)
			rank[i] = append(rank[i], got)
			if got != wordsCompare(a, b) || (got == 0) != (i == j) || got != -labels.Compare(b, a) {
				t.Fatalf("Compare(%q, %q) = %d", a, b, got)
			}
		}
	}
	for i := range lists {
		for j := range lists {
			for k := range lists {
				if rank[i][j] < 0 && rank[j][k] < 0 && rank[i][k] >= 0 {
					t.Fatalf("%q, %q, %q rise, but the last isn't ahead of the first", lists[i], lists[j], lists[k])
				}
			}
		}
	}
}

// P16.2: lists by chance, and such as have a long beginning in common.
func TestCompareByChance(t *testing.T) {
	c := newChance(4)
	for range 40000 {
		a, b := c.any(5), c.any(5)
		head := c.any(8)
		for _, two := range [][2][]api.Label{{a, b}, {slices.Concat(head, a), slices.Concat(head, b)}, {head, slices.Concat(head, b)}} {
			got := labels.Compare(two[0], two[1])
			if want := wordsCompare(two[0], two[1]); got != want || labels.Compare(two[1], two[0]) != -want {
				t.Fatalf("Compare(%q, %q) = %d; want %d", two[0], two[1], got, want)
			}
		}
	}
}

func sameElems(a, b []api.Elem) bool {
	return slices.EqualFunc(a, b, func(x, y api.Elem) bool {
		return math.Float64bits(x.V) == math.Float64bits(y.V) && slices.Equal(x.Labels, y.Labels)
	})
}

func checkVector(t *testing.T, v []api.Elem) {
	t.Helper()
	want, e := wordsVector(v)
	if got, err := labels.Vector(v); err != e || !sameElems(got, want) {
		t.Fatalf("Vector(%v) = %v, %d; want %v, %d", v, got, err, want, e)
	}
}

// P16.5: sound vectors and each way not to be sound, at each place.
func TestVectorExamples(t *testing.T) {
	a, b, ab := set("a", "1"), set("b", "1"), set("a", "1", "b", "1")
	sound := []api.Elem{{Labels: b, V: 1}, {Labels: a, V: math.Inf(-1)}, {V: math.Copysign(0, -1)}, {Labels: ab, V: 1}, {Labels: set("a", "10"), V: 1}}
	got, e := labels.Vector(sound)
	want := []api.Elem{sound[2], sound[1], sound[3], sound[4], sound[0]}
	if e != 0 || !sameElems(got, want) {
		t.Errorf("Vector = %v, %d", got, e)
	}
	if got, e := labels.Vector([]api.Elem{{Labels: a, V: math.NaN()}}); e != 0 || len(got) != 1 || !math.IsNaN(got[0].V) {
		t.Errorf("Vector = %v, %d", got, e)
	}
	for _, v := range [][]api.Elem{nil, {}, {{}}, {{V: 7}}, {{Labels: []api.Label{}}}} {
		if got, e := labels.Vector(v); e != 0 || len(got) != len(v) {
			t.Errorf("Vector(%v) = %v, %d", v, got, e)
		}
	}
	for _, ls := range [][]api.Label{set("a", ""), set("b", "1", "a", "1"), set("a", "1", "a", "2"), set("0", "1"), set("a", "\xff"), a, b, ab, nil} {
		for at := range len(sound) + 1 {
			v := slices.Insert(slices.Clone(sound), at, api.Elem{Labels: ls, V: 9})
			if got, e := labels.Vector(v); e != api.ErrVector || len(got) != 0 {
				t.Errorf("Vector(%v) = %v, %d", v, got, e)
			}
		}
	}
}

// P16.5: every small vector, in every order.
func TestVectorSmall(t *testing.T) {
	var things []api.Elem
	for i, ls := range [][]api.Label{nil, set("a", "1"), set("a", "2"), set("a", "1", "b", "1"), set("b", "1"), set("b", "1", "a", "1"), set("a", "")} {
		things = append(things, api.Elem{Labels: ls, V: float64(i)})
	}
	for _, v := range small(things, 5) {
		checkVector(t, v)
	}
	c := newChance(5)
	for i := range 6000 {
		checkVector(t, c.elems(12, i%2 == 0))
	}
}

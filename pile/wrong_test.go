package pile_test

import (
	"maps"
	"math"
	"slices"
	"testing"

	"weir/pile"
)

// wrongs: makers of a less that isn't right.
func wrongs() map[string]func() lessOf {
	return map[string]func() lessOf{
		"yes to every pair": func() lessOf {
			return func(a, b thing) bool { return true }
		},
		"alike is less": func() lessOf {
			return func(a, b thing) bool { return a.rank <= b.rank }
		},
		"against itself in a ring": func() lessOf {
			return func(a, b thing) bool { return (b.rank-a.rank+300)%3 == 1 }
		},
		"being alike doesn't carry over": func() lessOf {
			return func(a, b thing) bool { return a.rank+1 < b.rank }
		},
		"yes and no in turn": func() lessOf {
			asked := 0
			return func(a, b thing) bool {
				asked++
				return asked%2 == 0
			}
		},
		"yes to all at first, then to none": func() lessOf {
			asked := 0
			return func(a, b thing) bool {
				asked++
				return asked < 40
			}
		},
		"another order after some calls": func() lessOf {
			asked := 0
			return func(a, b thing) bool {
				asked++
				return (a.rank < b.rank) == (asked%17 < 9)
			}
		},
		"by chance": func() lessOf {
			r := someRand()
			return func(a, b thing) bool { return r.IntN(2) == 0 }
		},
	}
}

// wrongLists: lists short enough for the rings, and longer ones.
func wrongLists() [][]thing {
	r := someRand()
	out := [][]thing{nil}
	for n := range 40 {
		out = append(out, named(anyRanks(r, n, 3)...), named(anyRanks(r, n, 100)...))
	}
	return append(out, named(anyRanks(r, 5000, 100)...), slices.Repeat(named(1, 2, 3), 30))
}

// P7.5: Sorted, Drain and Pop give each thing as often as it was put in, and Merge does; Best gives none more often, and as many as it should.
func TestWrongLess(t *testing.T) {
	for name, wrong := range wrongs() {
		for _, list := range wrongLists() {
			want := counted(list)
			if got := pile.Sorted(list, wrong()); !maps.Equal(counted(got), want) {
				t.Fatalf("%s: Sorted of %v: %v", name, list, got)
			}
			if got := emptied(filled(list, wrong())); !maps.Equal(counted(got), want) {
				t.Fatalf("%s: a pile of %v: %v", name, list, got)
			}
			if got := slices.Collect(filled(list, wrong()).Drain()); !maps.Equal(counted(got), want) {
				t.Fatalf("%s: Drain of %v: %v", name, list, got)
			}
			lists := apart(someRand(), list, 5)
			if got := pile.Merge(wrong(), lists...); !maps.Equal(counted(got), want) {
				t.Fatalf("%s: Merge of %v: %v", name, lists, got)
			}
			for _, k := range []int{-1, 0, 1, 2, len(list) / 2, len(list) - 1, len(list), len(list) + 1} {
				got := pile.Best(list, k, wrong())
				if len(got) != max(0, min(k, len(list))) {
					t.Fatalf("%s: the best %d of %d things are %d", name, k, len(list), len(got))
				}
				for x, n := range counted(got) {
					if n > want[x] {
						t.Fatalf("%s: %v is %d times among the best %d of %v", name, x, n, k, list)
					}
				}
			}
		}
	}
}

// P7.5: steps in every mixture: Len counts, Peek and the Pop behind it tell the same thing, and until the pile is empty each thing has come out as often as it was put in.
func TestWrongLessStepByStep(t *testing.T) {
	r := someRand()
	for name, wrong := range wrongs() {
		p := pile.New(wrong())
		in := map[thing]int{}
		size := 0
		for i := range 3000 {
			if i < 2900 && r.IntN(20) < 11 {
				x := thing{r.IntN(50), i % 700}
				p.Push(x)
				in[x]++
				size++
			} else {
				y, is := p.Peek()
				x, ok := p.Pop()
				if ok != (size > 0) || is != ok || x != y || ok && in[x] == 0 || !ok && x != (thing{}) {
					t.Fatalf("%s: Peek answers %v %v, Pop %v %v with %d things in", name, y, is, x, ok, size)
				}
				if ok {
					in[x]--
					size--
				}
			}
			if p.Len() != size {
				t.Fatalf("%s: Len is %d, not %d", name, p.Len(), size)
			}
		}
		for _, x := range emptied(p) {
			in[x]--
		}
		for x, n := range in {
			if n != 0 {
				t.Fatalf("%s: %v came out %d times too few", name, x, n)
			}
		}
	}
}

// P7.5: floats with NaN among them, by <: no right order, and none is lost.
func TestNaN(t *testing.T) {
	var list []float64
	for i := range 50 {
		list = append(list, float64((i*29)%50), math.NaN())
	}
	got := pile.Sorted(list, func(a, b float64) bool { return a < b })
	var numbers []float64
	for _, x := range got {
		if !math.IsNaN(x) {
			numbers = append(numbers, x)
		}
	}
	slices.Sort(numbers)
	if len(got) != 100 || len(numbers) != 50 || numbers[0] != 0 || numbers[49] != 49 || len(slices.Compact(numbers)) != 50 {
		t.Errorf("%v", got)
	}
}

package index_test

import (
	"math"
	"slices"
	"testing"

	"weir/index"
)

// P18.5: the chapter's examples and the edges: empty lists, in any order, numbers more than once, negative ones, the same list twice.
func TestListsExamples(t *testing.T) {
	for _, c := range []struct {
		a, b             []int
		and, or, without []int
	}{
		{nil, nil, nil, nil, nil},
		{[]int{}, nil, nil, nil, nil},
		{[]int{}, []int{}, nil, nil, nil},
		{[]int{3, 1, 3}, []int{3, 2, 1}, []int{1, 3}, []int{1, 2, 3}, nil},
		{[]int{3, 1}, []int{1}, []int{1}, []int{1, 3}, []int{3}},
		{[]int{1}, []int{3, 1}, []int{1}, []int{1, 3}, nil},
		{[]int{2, 1, 2}, nil, nil, []int{1, 2}, []int{1, 2}},
		{nil, []int{2, 1, 2}, nil, []int{1, 2}, nil},
		{[]int{5, 5, 5}, []int{5, 5}, []int{5}, []int{5}, nil},
		{[]int{5, 5, 5}, []int{6, 6}, nil, []int{5, 6}, []int{5}},
		{[]int{-1, -3, 0}, []int{0, -3, 7, -9}, []int{-3, 0}, []int{-9, -3, -1, 0, 7}, []int{-1}},
		{[]int{3, 1, 2}, []int{3, 1, 2}, []int{1, 2, 3}, []int{1, 2, 3}, nil},
		{[]int{1, 2, 3}, []int{4, 5, 6}, nil, []int{1, 2, 3, 4, 5, 6}, []int{1, 2, 3}},
		{[]int{4, 5, 6}, []int{1, 2, 3}, nil, []int{1, 2, 3, 4, 5, 6}, []int{4, 5, 6}},
		{[]int{math.MaxInt, math.MinInt, 0}, []int{math.MinInt, math.MaxInt}, []int{math.MinInt, math.MaxInt}, []int{math.MinInt, 0, math.MaxInt}, []int{0}},
		{[]int{math.MinInt}, []int{math.MaxInt}, nil, []int{math.MinInt, math.MaxInt}, []int{math.MinInt}},
	} {
		if got := index.And(c.a, c.b); !slices.Equal(got, c.and) {
			t.Errorf("And(%v, %v) = %v", c.a, c.b, got)
		}
		if got := index.Or(c.a, c.b); !slices.Equal(got, c.or) {
			t.Errorf("Or(%v, %v) = %v", c.a, c.b, got)
		}
		if got := index.Without(c.a, c.b); !slices.Equal(got, c.without) {
			t.Errorf("Without(%v, %v) = %v", c.a, c.b, got)
		}
		checkLists(t, c.a, c.b)
	}
}

// P18.5: every two small lists.
func TestEverySmallLists(t *testing.T) {
	all := append(small([]int{-2, 0, 1, 3}, 4), small([]int{math.MinInt, -1, math.MaxInt}, 2)...)
	for _, a := range all {
		for _, b := range all {
			checkLists(t, a, b)
		}
	}
}

// P18.5: lists by chance, of the same length and of very different ones.
func TestListsByChance(t *testing.T) {
	c := newChance(7)
	for range 20000 {
		checkLists(t, c.numbers(9), c.numbers(9))
	}
	for range 500 {
		checkLists(t, c.numbers(60), c.numbers(60))
		checkLists(t, c.numbers(3), c.numbers(80))
		checkLists(t, c.numbers(80), c.numbers(3))
	}
}

// P18.5: one list handed in twice, the same memory, and parts of it that overlap.
func TestListsOfOneMemory(t *testing.T) {
	c := newChance(8)
	for range 2000 {
		a := c.numbers(12)
		before := slices.Clone(a)
		at := c.dice.IntN(len(a) + 1)
		checkLists(t, a, a)
		checkLists(t, a[at:], a)
		checkLists(t, a, a[:at])
		checkLists(t, a[:at], a[at/2:])
		if !slices.Equal(a, before) {
			t.Fatalf("%v is left of %v", a, before)
		}
	}
}

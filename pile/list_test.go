package pile_test

import (
	"math"
	"slices"
	"testing"

	"weir/pile"
)

// P7.3: the chapter's examples of lists.
func TestListsOfTheChapter(t *testing.T) {
	list := read("2a 1b 2c 1d")
	if s := told(pile.Sorted(list, byRank)); s != "1b 1d 2a 2c" {
		t.Errorf("Sorted: %s", s)
	}
	if s := told(pile.Best(list, 3, byRank)); s != "1b 1d 2a" {
		t.Errorf("Best: %s", s)
	}
	for _, k := range []int{0, -7} {
		if l := pile.Best(read("2a 1b"), k, byRank); len(l) != 0 {
			t.Errorf("Best of %d: %v", k, l)
		}
	}
	if s := told(pile.Sorted(list, nil)); s != "2a 1b 2c 1d" {
		t.Errorf("Sorted with a nil less: %s", s)
	}
}

// P7.3: Sorted of every short list.
func TestSortedOfAllShortLists(t *testing.T) {
	for n := range 8 {
		for _, ranks := range allRanks(n, 3) {
			list := named(ranks...)
			if got, want := pile.Sorted(list, byRank), sortedByWords(list, byRank); !slices.Equal(got, want) {
				t.Fatalf("%v: %v, not %v", list, got, want)
			}
		}
	}
}

// P7.3: Sorted by every order, of lists that are long, rising, falling, all alike, empty.
func TestSorted(t *testing.T) {
	for _, o := range orders() {
		for _, list := range someLists() {
			if got, want := pile.Sorted(list, o.less), sortedByWords(list, o.plain); !slices.Equal(got, want) {
				t.Fatalf("%s, %v: %v, not %v", o.name, list, got, want)
			}
		}
	}
}

// P7.3: Best of every short list and every k, from below 1 to above the list's length.
func TestBestOfAllShortLists(t *testing.T) {
	for n := range 8 {
		for _, ranks := range allRanks(n, 3) {
			list := named(ranks...)
			want := sortedByWords(list, byRank)
			for k := -1; k <= n+2; k++ {
				if got := pile.Best(list, k, byRank); !slices.Equal(got, want[:max(0, min(k, n))]) {
					t.Fatalf("the best %d of %v: %v", k, list, got)
				}
			}
		}
	}
}

// P7.3: Best by every order, with k at both ends of its type, about 0, about the list's length and between.
func TestBest(t *testing.T) {
	for _, o := range orders() {
		for _, list := range someLists() {
			n := len(list)
			want := sortedByWords(list, o.plain)
			for _, k := range []int{math.MinInt, -1, 0, 1, 2, 3, 10, n / 2, n - 1, n, n + 1, math.MaxInt} {
				if got := pile.Best(list, k, o.less); !slices.Equal(got, want[:max(0, min(k, n))]) {
					t.Fatalf("%s: the best %d of %v: %v", o.name, k, list, got)
				}
			}
		}
	}
}

// P7.3: texts by their length, floats with both zeros alike, and pointers, which stay the same ones.
func TestListsOfOtherTypes(t *testing.T) {
	texts := pile.Sorted([]string{"bb", "a", "cc", "d"}, func(a, b string) bool { return len(a) < len(b) })
	if !slices.Equal(texts, []string{"a", "d", "bb", "cc"}) {
		t.Errorf("%q", texts)
	}
	minus := math.Copysign(0, -1)
	floats := pile.Best([]float64{1, 0, minus, math.Inf(-1), 0}, 4, func(a, b float64) bool { return a < b })
	if len(floats) != 4 || !math.IsInf(floats[0], -1) || math.Signbit(floats[1]) || !math.Signbit(floats[2]) || math.Signbit(floats[3]) {
		t.Errorf("%v", floats)
	}
	one, two := 1, 2
	by := func(a, b *int) bool { return *a < *b }
	if l := pile.Sorted([]*int{&two, &one}, by); l[0] != &one || l[1] != &two {
		t.Error("Sorted answers other pointers")
	}
	if l := pile.Best([]*int{&two, &one}, 1, by); l[0] != &one {
		t.Error("Best answers another pointer")
	}
	if l := pile.Merge(by, []*int{&two}, []*int{&one}); l[0] != &one || l[1] != &two {
		t.Error("Merge answers other pointers")
	}
}

package pile_test

import (
	"math/rand/v2"
	"slices"
	"testing"

	"weir/pile"
)

// P7.4: the chapter's examples of Merge.
func TestMergeOfTheChapter(t *testing.T) {
	if s := told(pile.Merge(byRank, read("1a 3b"), read(""), read("1c 2d"))); s != "1a 1c 2d 3b" {
		t.Errorf("sorted lists: %s", s)
	}
	if s := told(pile.Merge(byRank, read("3a 1b"), read("2c"))); s != "2c 3a 1b" {
		t.Errorf("a list that isn't sorted: %s", s)
	}
}

// P7.4: Merge of nothing, of empty lists and of one list, sorted or not.
func TestMergeOfFew(t *testing.T) {
	for _, o := range orders() {
		if l := pile.Merge(o.less); len(l) != 0 {
			t.Errorf("%s: of nothing: %v", o.name, l)
		}
		if l := pile.Merge(o.less, nil, []thing{}, nil); len(l) != 0 {
			t.Errorf("%s: of empty lists: %v", o.name, l)
		}
		for _, list := range someLists() {
			if l := pile.Merge(o.less, list); !slices.Equal(l, list) {
				t.Errorf("%s: of the one list %v: %v", o.name, list, l)
			}
			if l := pile.Merge(o.less, nil, list, nil, nil); !slices.Equal(l, list) {
				t.Errorf("%s: of %v among empty lists: %v", o.name, list, l)
			}
		}
	}
}

// apart: a list cut into some lists; they keep its order.
func apart(r *rand.Rand, list []thing, parts int) [][]thing {
	out := make([][]thing, parts)
	for _, x := range list {
		i := r.IntN(parts)
		out[i] = append(out[i], x)
	}
	return out
}

// P7.4: Merge of three lists of all short forms, sorted and not, with things alike across them and within.
func TestMergeOfAllShortLists(t *testing.T) {
	for n := range 7 {
		for _, ranks := range allRanks(n, 3) {
			list := named(ranks...)
			for i := 0; i <= n; i++ {
				for j := i; j <= n; j++ {
					lists := [][]thing{list[:i], list[i:j], list[j:]}
					if got, want := pile.Merge(byRank, lists...), mergedByWords(byRank, lists); !slices.Equal(got, want) {
						t.Fatalf("%v: %v, not %v", lists, got, want)
					}
				}
			}
		}
	}
}

// P7.4: Merge of sorted lists is Sorted of the lists one behind the other.
func TestMergeOfSorted(t *testing.T) {
	r := someRand()
	for _, o := range orders() {
		for _, list := range someLists() {
			for _, parts := range []int{1, 2, 3, 8, 40} {
				lists := apart(r, list, parts)
				for i := range lists {
					lists[i] = sortedByWords(lists[i], o.plain)
				}
				want := sortedByWords(slices.Concat(lists...), o.plain)
				if got := pile.Merge(o.less, lists...); !slices.Equal(got, want) {
					t.Fatalf("%s, %v: %v, not %v", o.name, lists, got, want)
				}
			}
		}
	}
}

// P7.4: Merge of lists that aren't sorted takes the first of the first things that are left.
func TestMergeOfUnsorted(t *testing.T) {
	r := someRand()
	for _, o := range orders() {
		for _, list := range someLists() {
			for _, parts := range []int{2, 3, 8, 40} {
				lists := apart(r, list, parts)
				if got, want := pile.Merge(o.less, lists...), mergedByWords(o.plain, lists); !slices.Equal(got, want) {
					t.Fatalf("%s, %v: %v, not %v", o.name, lists, got, want)
				}
			}
		}
	}
}

// P7.4: things alike come in the order of their lists, each list's whole run of them ahead of the next list's.
func TestMergeOfAlike(t *testing.T) {
	for _, less := range []lessOf{byRank, never, nil} {
		var lists [][]thing
		var want []thing
		for i := range 20 {
			var list []thing
			for j := range (i * 7) % 5 {
				list = append(list, thing{2, 100*i + j})
			}
			lists, want = append(lists, list), append(want, list...)
		}
		if got := pile.Merge(less, lists...); !slices.Equal(got, want) {
			t.Errorf("%v, not %v", got, want)
		}
	}
}

// P7.4: one list handed in twice, or lists that share memory, count as lists of their own.
func TestMergeOfSharedLists(t *testing.T) {
	list := named(1, 2, 2, 4)
	want := sortedByWords(slices.Concat(list, list, list[1:3]), byRank)
	if got := pile.Merge(byRank, list, list, list[1:3]); !slices.Equal(got, want) {
		t.Errorf("%v, not %v", got, want)
	}
}

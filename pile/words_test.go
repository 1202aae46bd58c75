package pile_test

import (
	"math/rand/v2"
	"slices"
	"strconv"
	"strings"

	"weir/pile"
)

// A thing is alike with those of its rank; its name tells it from them.
type thing struct {
	rank int
	name int
}

func byRank(a, b thing) bool { return a.rank < b.rank }

func byRankBack(a, b thing) bool { return a.rank > b.rank }

// never: what a nil less is taken for.
func never(a, b thing) bool { return false }

type lessOf func(a, b thing) bool

// An order is a right less, and the one by which the words are asked about it.
type order struct {
	name  string
	less  lessOf // as it is handed in
	plain lessOf // the same, never nil
}

func orders() []order {
	odd := func(a, b thing) bool { return a.rank%2 != 0 && b.rank%2 == 0 }
	return []order{
		{"by rank", byRank, byRank},
		{"by rank, the greatest first", byRankBack, byRankBack},
		{"the odd ones first", odd, odd},
		{"no to every pair", never, never},
		{"nil", nil, never},
	}
}

// someRand: always the same numbers in no order.
func someRand() *rand.Rand {
	return rand.New(rand.NewPCG(7, 1))
}

// named: things of these ranks, named by their places.
func named(ranks ...int) []thing {
	var out []thing
	for i, r := range ranks {
		out = append(out, thing{r, i})
	}
	return out
}

// anyRanks: n ranks below most.
func anyRanks(r *rand.Rand, n, most int) []int {
	var out []int
	for range n {
		out = append(out, r.IntN(most))
	}
	return out
}

// allRanks: every list of n ranks below most.
func allRanks(n, most int) [][]int {
	if n == 0 {
		return [][]int{nil}
	}
	var out [][]int
	for _, l := range allRanks(n-1, most) {
		for r := range most {
			out = append(out, append(slices.Clone(l), r))
		}
	}
	return out
}

// someLists: lists of things, short and long: none, one, all alike, rising, falling, in no order with many and with few alike.
func someLists() [][]thing {
	r := someRand()
	out := [][]thing{nil, {}, named(5), named(1, 1), named(2, 1), named(1, 2)}
	for _, n := range []int{3, 7, 8, 15, 16, 17, 100, 1000} {
		same, up, down := make([]int, n), make([]int, n), make([]int, n)
		for i := range n {
			same[i], up[i], down[i] = 3, i, n-i
		}
		for _, l := range [][]int{same, up, down, anyRanks(r, n, 2), anyRanks(r, n, 5), anyRanks(r, n, 1<<40)} {
			out = append(out, named(l...))
		}
	}
	return out
}

// theFirst: the place of the first thing, by the chapter's words: none is less than it, and of several such it came first. The list is in the order of coming.
func theFirst(l []thing, less lessOf) int {
	for i, x := range l {
		if !slices.ContainsFunc(l, func(y thing) bool { return less(y, x) }) {
			return i
		}
	}
	return -1
}

// A slow pile is a pile by the chapter's words: a list in the order of coming.
type slow struct {
	list []thing
	less lessOf
}

func (s *slow) push(x thing) { s.list = append(s.list, x) }

func (s *slow) peek() (thing, bool) {
	if len(s.list) == 0 {
		return thing{}, false
	}
	return s.list[theFirst(s.list, s.less)], true
}

func (s *slow) pop() (thing, bool) {
	x, ok := s.peek()
	if ok {
		i := theFirst(s.list, s.less)
		s.list = slices.Delete(s.list, i, i+1)
	}
	return x, ok
}

// sortedByWords: all things of l as a slow pile gives them; a long list is sorted by the library.
func sortedByWords(l []thing, less lessOf) []thing {
	if len(l) > 100 {
		out := slices.Clone(l)
		slices.SortStableFunc(out, func(a, b thing) int {
			switch {
			case less(a, b):
				return -1
			case less(b, a):
				return 1
			}
			return 0
		})
		return out
	}
	var out []thing
	s := &slow{list: slices.Clone(l), less: less}
	for x, ok := s.pop(); ok; x, ok = s.pop() {
		out = append(out, x)
	}
	return out
}

// mergedByWords: the first of the first things that are left, again and again.
func mergedByWords(less lessOf, lists [][]thing) []thing {
	lists = slices.Clone(lists)
	var out []thing
	for {
		var heads []thing
		var from []int
		for i, l := range lists {
			if len(l) > 0 {
				heads, from = append(heads, l[0]), append(from, i)
			}
		}
		if len(heads) == 0 {
			return out
		}
		at := theFirst(heads, less)
		out = append(out, heads[at])
		lists[from[at]] = lists[from[at]][1:]
	}
}

// filled: a pile that the things of l were put into, one by one.
func filled(l []thing, less lessOf) *pile.Pile[thing] {
	p := pile.New(less)
	for _, x := range l {
		p.Push(x)
	}
	return p
}

// emptied: all that comes out of a pile.
func emptied(p *pile.Pile[thing]) []thing {
	var out []thing
	for x, ok := p.Pop(); ok; x, ok = p.Pop() {
		out = append(out, x)
	}
	return out
}

// read: things written as in the chapter's examples: 2a is a thing of rank 2 with the name a.
func read(text string) []thing {
	var out []thing
	for _, w := range strings.Fields(text) {
		out = append(out, thing{int(w[0] - '0'), int(w[1])})
	}
	return out
}

func told(l []thing) string {
	var words []string
	for _, x := range l {
		words = append(words, strconv.Itoa(x.rank)+string(rune(x.name)))
	}
	return strings.Join(words, " ")
}

// counted: how often each thing is in a list.
func counted(l []thing) map[thing]int {
	out := map[thing]int{}
	for _, x := range l {
		out[x]++
	}
	return out
}

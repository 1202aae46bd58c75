package pile_test

import (
	"math"
	"runtime"
	"slices"
	"sync"
	"testing"
	"weak"

	"weir/pile"
)

// A question asks one of the calls that make a list.
type question struct {
	name string
	ask  func(list []thing, less lessOf) []thing
}

// questions: each call that makes a list; Merge gets the list as it is, and cut in two.
func questions() []question {
	return []question{
		{"Sorted", func(l []thing, less lessOf) []thing { return pile.Sorted(l, less) }},
		{"Best of 1", func(l []thing, less lessOf) []thing { return pile.Best(l, 1, less) }},
		{"Best of 3", func(l []thing, less lessOf) []thing { return pile.Best(l, 3, less) }},
		{"Best of all", func(l []thing, less lessOf) []thing { return pile.Best(l, len(l), less) }},
		{"Best of more", func(l []thing, less lessOf) []thing { return pile.Best(l, math.MaxInt, less) }},
		{"Best of none", func(l []thing, less lessOf) []thing { return pile.Best(l, 0, less) }},
		{"Merge of one", func(l []thing, less lessOf) []thing { return pile.Merge(less, l) }},
		{"Merge of one and nothing", func(l []thing, less lessOf) []thing { return pile.Merge(less, nil, l, nil) }},
		{"Merge of two", func(l []thing, less lessOf) []thing { return pile.Merge(less, l[len(l)/2:], l[:len(l)/2]) }},
		{"Merge of one twice", func(l []thing, less lessOf) []thing { return pile.Merge(less, l, l) }},
	}
}

// P1, rule 1: no call panics, and each ends, whatever it is given.
func TestTotal(t *testing.T) {
	for _, o := range orders() {
		for _, list := range someLists() {
			for _, q := range questions() {
				q.ask(list, o.less)
			}
			for _, k := range []int{math.MinInt, math.MinInt + 1, -1, 0, 1, math.MaxInt - 1, math.MaxInt} {
				pile.Best(list, k, o.less)
			}
		}
		p := pile.New(o.less)
		p.Pop()
		p.Peek()
		p.Len()
		p.Drain()
		p.Push(thing{math.MinInt, math.MaxInt})
		p.Push(thing{math.MaxInt, math.MinInt})
		emptied(p)
	}
	if len(pile.Sorted[any](nil, nil)) != 0 {
		t.Error("Sorted of nothing holds something")
	}
	pile.Sorted([]any{nil, 1, "a", []int{}}, nil)
	pile.Best([]any{nil, 1, "a", []int{}}, 2, nil)
	pile.Merge(nil, []any{nil, 1}, []any{nil}, nil)
}

// P1, rule 1: long lists come to an end too, in whatever order they stand.
func TestLongLists(t *testing.T) {
	const n = 200000
	r := someRand()
	for _, rank := range []func(i int) int{
		func(i int) int { return i },
		func(i int) int { return -i },
		func(int) int { return 7 },
		func(int) int { return r.IntN(1000) },
	} {
		var list []thing
		for i := range n {
			list = append(list, thing{rank(i), i})
		}
		want := sortedByWords(list, byRank)
		if !slices.Equal(pile.Sorted(list, byRank), want) {
			t.Error("Sorted of a long list")
		}
		for _, k := range []int{1, 100, n / 2, n - 1} {
			if !slices.Equal(pile.Best(list, k, byRank), want[:k]) {
				t.Errorf("the best %d of a long list", k)
			}
		}
		var lists [][]thing
		for part := range slices.Chunk(list, 10) {
			lists = append(lists, sortedByWords(part, byRank))
		}
		if !slices.Equal(pile.Merge(byRank, lists...), want) {
			t.Error("Merge of many lists")
		}
	}
}

// P1, rule 4: nil and the empty list are one and the same.
func TestNilIsEmpty(t *testing.T) {
	for _, q := range questions() {
		for _, list := range [][]thing{nil, {}, make([]thing, 0, 9)} {
			if l := q.ask(list, byRank); len(l) != 0 {
				t.Errorf("%s of nothing: %v", q.name, l)
			}
		}
	}
	list := named(2, 1)
	if !slices.Equal(pile.Merge(byRank, list, nil), pile.Merge(byRank, list, []thing{})) {
		t.Error("Merge with nil and with an empty list")
	}
	if len(pile.Merge(byRank, [][]thing{}...)) != 0 || len(pile.Merge(byRank, [][]thing(nil)...)) != 0 {
		t.Error("Merge of no lists")
	}
}

const marks = 40 // how many marks the room behind a list holds

// roomy: a list with room behind it that holds marks, and the whole of that memory.
func roomy[T any](l []T, mark T) (list, whole []T) {
	whole = slices.Clone(l)
	for range marks {
		whole = append(whole, mark)
	}
	return whole[:len(l)], whole
}

// P1, rule 5: what is handed in stays as it is, the room behind it too; and what that room holds counts for nothing.
func TestListsStayAsTheyAre(t *testing.T) {
	for _, o := range orders() {
		for _, plain := range someLists() {
			list, whole := roomy(plain, thing{-9, -9})
			before := slices.Clone(whole)
			for _, q := range questions() {
				got := q.ask(list, o.less)
				if !slices.Equal(whole, before) {
					t.Fatalf("%s, %s: the list was changed", q.name, o.name)
				}
				if want := q.ask(slices.Clone(plain), o.less); !slices.Equal(got, want) {
					t.Fatalf("%s, %s: what stands behind the list counts: %v, not %v", q.name, o.name, got, want)
				}
			}
		}
	}
}

// P1, rule 5: the list of lists that is handed to Merge stays as it is too, and so does the room behind it.
func TestListOfListsStaysAsItIs(t *testing.T) {
	r := someRand()
	for _, plain := range someLists() {
		lists, whole := roomy(apart(r, plain, 6), named(-9))
		before := slices.Clone(whole)
		var things [][]thing
		for _, l := range whole {
			things = append(things, slices.Clone(l))
		}
		want := mergedByWords(byRank, lists)
		if got := pile.Merge(byRank, lists...); !slices.Equal(got, want) {
			t.Fatalf("%v, not %v", got, want)
		}
		for i := range whole {
			if len(whole[i]) != len(before[i]) || len(whole[i]) > 0 && &whole[i][0] != &before[i][0] || !slices.Equal(whole[i], things[i]) {
				t.Fatalf("the list number %d was changed", i)
			}
		}
	}
}

// P1, rule 5: an answer is new memory, its spare room too: writing it over changes neither the list nor another answer, and writing the list over changes no answer.
func TestAnswersAreNewMemory(t *testing.T) {
	wipe := func(l []thing) {
		l = l[:cap(l)]
		for i := range l {
			l[i] = thing{-1, -1}
		}
	}
	for _, plain := range someLists() {
		for _, q := range questions() {
			list, whole := roomy(plain, thing{-9, -9})
			before := slices.Clone(whole)
			one, two := q.ask(list, byRank), q.ask(list, byRank)
			want := slices.Clone(two)
			wipe(one)
			if !slices.Equal(whole, before) || !slices.Equal(two, want) {
				t.Fatalf("%s of %v: the answer shares memory", q.name, plain)
			}
			wipe(whole)
			if !slices.Equal(two, want) {
				t.Fatalf("%s of %v: the answer shares memory with the list", q.name, plain)
			}
		}
	}
}

// P1, rule 5: a pile keeps copies: what the caller does with what it put in or got out changes nothing in it.
func TestThingsAreCopied(t *testing.T) {
	p := pile.New(byRank)
	x := thing{2, 2}
	p.Push(x)
	x.rank = 0
	y, _ := p.Peek()
	y.rank = 7
	p.Push(thing{1, 1})
	if got := emptied(p); !slices.Equal(got, []thing{{1, 1}, {2, 2}}) {
		t.Errorf("%v", got)
	}
}

// kept: how many of the things that came out of a pile something still holds.
func kept(out []weak.Pointer[thing]) int {
	runtime.GC()
	n := 0
	for _, w := range out {
		if w.Value() != nil {
			n++
		}
	}
	return n
}

// P1, rule 6: a pile keeps nothing of what is out.
func TestPileLetsGo(t *testing.T) {
	p := pile.New(func(a, b *thing) bool { return a.rank < b.rank })
	var all []weak.Pointer[thing]
	for i := range 100 {
		x := &thing{i % 10, i}
		all = append(all, weak.Make(x))
		p.Push(x)
	}
	for range 60 {
		p.Pop()
	}
	for range p.Drain() {
		if p.Len() == 20 {
			break
		}
	}
	if n := kept(all); n != 20 || p.Len() != 20 {
		t.Errorf("%d things are in, and %d are held", p.Len(), n)
	}
	runtime.KeepAlive(p)
}

// P2, and P1, rule 6: nothing is kept from call to call: the same is answered whatever was asked before, and by many at one time, each with piles of its own.
func TestNothingIsKept(t *testing.T) {
	lists := someLists()
	ask := func() [][]thing {
		var out [][]thing
		for _, o := range orders() {
			for _, list := range lists {
				for _, q := range questions() {
					out = append(out, q.ask(list, o.less))
				}
				p := filled(list, o.less)
				out = append(out, taken(p.Drain(), len(list)/2), emptied(p))
			}
		}
		return out
	}
	first := ask()
	var all sync.WaitGroup
	for range 4 {
		all.Go(func() {
			for i, got := range ask() {
				if !slices.Equal(got, first[i]) {
					t.Errorf("answer %d is another one now", i)
					return
				}
			}
		})
	}
	all.Wait()
}

package pile_test

import (
	"math/rand/v2"
	"slices"
	"testing"

	"weir/pile"
)

// both is a pile and what the words say of it; each step is taken on both.
type both struct {
	t    *testing.T
	what string
	p    *pile.Pile[thing]
	s    *slow
}

func newBoth(t *testing.T, o order) *both {
	return &both{t, o.name, pile.New(o.less), &slow{less: o.plain}}
}

func (b *both) push(x thing) {
	b.p.Push(x)
	b.s.push(x)
	b.look()
}

func (b *both) pop() {
	b.t.Helper()
	x, ok := b.p.Pop()
	if want, is := b.s.pop(); x != want || ok != is {
		b.t.Fatalf("%s: Pop answers %v %v, not %v %v", b.what, x, ok, want, is)
	}
	b.look()
}

// look asks what changes nothing.
func (b *both) look() {
	b.t.Helper()
	x, ok := b.p.Peek()
	if want, is := b.s.peek(); x != want || ok != is {
		b.t.Fatalf("%s: Peek answers %v %v, not %v %v", b.what, x, ok, want, is)
	}
	if n := b.p.Len(); n != len(b.s.list) {
		b.t.Fatalf("%s: Len is %d, not %d", b.what, n, len(b.s.list))
	}
}

// P7.1: every list of nine steps, each a push of one of three ranks or a pop.
func TestAllShortLists(t *testing.T) {
	const steps, ranks = 9, 3
	for _, list := range allRanks(steps, ranks+1) {
		b := newBoth(t, orders()[0])
		for name, step := range list {
			if step == ranks {
				b.pop()
			} else {
				b.push(thing{step, name})
			}
		}
		for range steps + 1 {
			b.pop()
		}
	}
}

// steps: n steps on a pile, of which so many in ten are pushes.
func (b *both) steps(r *rand.Rand, n, pushes, ranks int) {
	for i := range n {
		if r.IntN(10) < pushes {
			b.push(thing{r.IntN(ranks), i})
		} else {
			b.pop()
		}
	}
}

// P7.1: long lists of steps, by every order; the pile grows, shrinks, runs empty and grows again.
func TestLongListsOfSteps(t *testing.T) {
	r := someRand()
	for _, o := range orders() {
		for _, ranks := range []int{1, 2, 5, 1000} {
			b := newBoth(t, o)
			for range 3 {
				b.steps(r, 150, 8, ranks)
				b.steps(r, 150, 5, ranks)
				b.steps(r, 250, 2, ranks)
			}
		}
	}
}

// P7.1: things alike come out in the order in which they were put in, also when pushes and pops alternate and when the pile has been empty meanwhile.
func TestAlikeInTheirOrder(t *testing.T) {
	p := pile.New(byRank)
	in, out := 0, 0
	for round := range 200 {
		for range 1 + round%7 {
			p.Push(thing{4, in})
			in++
		}
		for range 1 + round%5 {
			if x, ok := p.Pop(); ok && x != (thing{4, out}) {
				t.Fatalf("%v came out as number %d", x, out)
			} else if ok {
				out++
			}
		}
	}
	for x, ok := p.Pop(); ok; x, ok = p.Pop() {
		if x.name != out {
			t.Fatalf("%v came out as number %d", x, out)
		}
		out++
	}
	if in != out {
		t.Errorf("%d put in, %d came out", in, out)
	}
}

// P7.1: one thing put in more than once comes out as often.
func TestOneThingOften(t *testing.T) {
	p := pile.New(byRank)
	for range 20 {
		p.Push(thing{1, 1})
		p.Push(thing{0, 0})
	}
	want := append(slices.Repeat([]thing{{0, 0}}, 20), slices.Repeat([]thing{{1, 1}}, 20)...)
	if got := emptied(p); !slices.Equal(got, want) {
		t.Errorf("%v", got)
	}
}

// P7.1: piles side by side don't touch one another, not even those of one less.
func TestPilesSideBySide(t *testing.T) {
	r := someRand()
	var all []*both
	for _, o := range append(orders(), orders()...) {
		all = append(all, newBoth(t, o))
	}
	for i := range 3000 {
		b := all[r.IntN(len(all))]
		if r.IntN(5) < 3 {
			b.push(thing{r.IntN(4), i})
		} else {
			b.pop()
		}
		all[r.IntN(len(all))].look()
	}
}

// P7.1: the chapter's example of steps.
func TestStepsOfTheChapter(t *testing.T) {
	p := pile.New(byRank)
	p.Push(read("2a")[0])
	p.Push(read("1b")[0])
	if x, ok := p.Peek(); !ok || told([]thing{x}) != "1b" || p.Len() != 2 {
		t.Errorf("Peek answers %v %v; %d are in", x, ok, p.Len())
	}
	p.Push(read("1c")[0])
	if s := told(emptied(p)); s != "1b 1c 2a" {
		t.Errorf("%s came out", s)
	}
	if x, ok := p.Pop(); ok || x != (thing{}) {
		t.Errorf("Pop of an empty pile answers %v %v", x, ok)
	}
}

// P7.1, rule 3: an empty pile gives the zero thing and false, as often as it is asked, before and after it has held something.
func TestEmptyPile(t *testing.T) {
	p := pile.New(byRank)
	if p == nil {
		t.Fatal("New answers nil")
	}
	for range 3 {
		for range 2 {
			if x, ok := p.Peek(); ok || x != (thing{}) {
				t.Errorf("Peek answers %v %v", x, ok)
			}
			if x, ok := p.Pop(); ok || x != (thing{}) {
				t.Errorf("Pop answers %v %v", x, ok)
			}
			if p.Len() != 0 {
				t.Errorf("%d are in", p.Len())
			}
		}
		p.Push(thing{1, 1})
		p.Push(thing{1, 2})
		p.Pop()
		p.Pop()
	}
}

// P7.1: the zero thing is a thing as others are.
func TestZeroThing(t *testing.T) {
	p := pile.New(func(a, b int) bool { return a < b })
	p.Push(0)
	if x, ok := p.Peek(); x != 0 || !ok || p.Len() != 1 {
		t.Errorf("Peek answers %v %v", x, ok)
	}
	if x, ok := p.Pop(); x != 0 || !ok || p.Len() != 0 {
		t.Errorf("Pop answers %v %v", x, ok)
	}
}

// P7.1: a nil pile holds nothing, takes nothing in, and answers as an empty one.
func TestNilPile(t *testing.T) {
	var p *pile.Pile[thing]
	for range 2 {
		p.Push(thing{1, 1})
		if x, ok := p.Peek(); ok || x != (thing{}) {
			t.Errorf("Peek answers %v %v", x, ok)
		}
		if x, ok := p.Pop(); ok || x != (thing{}) {
			t.Errorf("Pop answers %v %v", x, ok)
		}
		if p.Len() != 0 {
			t.Errorf("Len is %d", p.Len())
		}
		seq := p.Drain()
		p.Push(thing{1, 1})
		for x := range seq {
			t.Errorf("Drain gives %v", x)
		}
	}
}

// P7.1: a pile is one of any type: texts, floats, pointers, functions, lists, empty structs; things are handed on as Go assigns them.
func TestAnyType(t *testing.T) {
	texts := pile.New(func(a, b string) bool { return len(a) < len(b) })
	for _, s := range []string{"bb", "", "cc", "d", "\xff"} {
		texts.Push(s)
	}
	for _, want := range []string{"", "d", "\xff", "bb", "cc"} {
		if s, ok := texts.Pop(); s != want || !ok {
			t.Errorf("%q, not %q", s, want)
		}
	}
	one, two := 1, 2
	pointers := pile.New(func(a, b *int) bool { return *a < *b })
	pointers.Push(&two)
	pointers.Push(&one)
	if x, ok := pointers.Pop(); x != &one || !ok {
		t.Error("another pointer came out")
	}
	lists := pile.New(func(a, b []int) bool { return a[0] < b[0] })
	list := []int{5, 6}
	lists.Push(list)
	if l, ok := lists.Peek(); !ok || &l[0] != &list[0] || len(l) != 2 {
		t.Error("another list came out")
	}
	functions := pile.New[func() int](nil)
	functions.Push(func() int { return 7 })
	functions.Push(nil)
	if f, ok := functions.Pop(); !ok || f() != 7 {
		t.Error("another function came out")
	}
	if f, ok := functions.Pop(); !ok || f != nil {
		t.Error("the nil function did not come out")
	}
	nothings := pile.New[struct{}](nil)
	nothings.Push(struct{}{})
	nothings.Push(struct{}{})
	nothings.Pop()
	if nothings.Len() != 1 {
		t.Error("empty structs are not counted")
	}
}

// P7.1: a less may ask another pile.
func TestLessOverAnotherPile(t *testing.T) {
	other := filled(named(3, 1, 2), byRank)
	p := pile.New(func(a, b thing) bool {
		x, _ := other.Peek()
		return (a.rank-x.rank)*(a.rank-x.rank) < (b.rank-x.rank)*(b.rank-x.rank)
	})
	for _, x := range named(9, 1, 4, 0, 2) {
		p.Push(x)
	}
	want := []thing{{1, 1}, {0, 3}, {2, 4}, {4, 2}, {9, 0}}
	if got := emptied(p); !slices.Equal(got, want) || other.Len() != 3 {
		t.Errorf("%v", got)
	}
}

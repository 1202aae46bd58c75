package pile_test

import (
	"iter"
	"slices"
	"testing"

	"weir/pile"
)

// P7.2: the chapter's example: a range that is left at its first thing.
func TestDrainOfTheChapter(t *testing.T) {
	p := filled(read("3a 1b 2c"), byRank)
	var got []thing
	for x := range p.Drain() {
		got = append(got, x)
		break
	}
	if told(got) != "1b" || p.Len() != 2 {
		t.Errorf("%s given, %d are left", told(got), p.Len())
	}
}

// taken: what a range gives that is left at its n-th thing.
func taken(seq iter.Seq[thing], n int) []thing {
	var got []thing
	if n == 0 {
		return got
	}
	for x := range seq {
		got = append(got, x)
		if len(got) == n {
			break
		}
	}
	return got
}

// P7.2: a range that is left at any place has taken out what it gave and nothing further; the rest comes out behind it, by the same iterator gone over again, by another or by Pop.
func TestDrainLeftEverywhere(t *testing.T) {
	for _, o := range orders() {
		for _, list := range someLists() {
			want := sortedByWords(list, o.plain)
			for n := 0; n <= len(list)+1; n += 1 + len(list)/20 {
				for _, rest := range []func(p *pile.Pile[thing], seq iter.Seq[thing]) []thing{
					func(p *pile.Pile[thing], seq iter.Seq[thing]) []thing { return slices.Collect(seq) },
					func(p *pile.Pile[thing], seq iter.Seq[thing]) []thing { return slices.Collect(p.Drain()) },
					func(p *pile.Pile[thing], seq iter.Seq[thing]) []thing { return emptied(p) },
				} {
					p := filled(list, o.less)
					seq := p.Drain()
					got := taken(seq, n)
					out := min(n, len(list))
					if !slices.Equal(got, want[:out]) || p.Len() != len(list)-out {
						t.Fatalf("%s, left at %d: %v given, %d are left", o.name, n, got, p.Len())
					}
					if x, ok := p.Peek(); ok != (out < len(list)) || ok && x != want[out] {
						t.Fatalf("%s, left at %d: %v stands first", o.name, n, x)
					}
					if got := rest(p, seq); !slices.Equal(got, want[out:]) || p.Len() != 0 {
						t.Fatalf("%s, left at %d: the rest is %v", o.name, n, got)
					}
				}
			}
		}
	}
}

// P7.2: when the body of a range runs, the thing that it was given is out and nothing further is.
func TestDrainTakesOneByOne(t *testing.T) {
	list := named(5, 3, 4, 3, 5, 1)
	p := filled(list, byRank)
	left := len(list)
	for x := range p.Drain() {
		left--
		if p.Len() != left {
			t.Fatalf("%v given, %d are left", x, p.Len())
		}
		if y, ok := p.Peek(); ok != (left > 0) || ok && y.rank < x.rank {
			t.Fatalf("%v given, %v stands first", x, y)
		}
	}
	if left != 0 {
		t.Errorf("%d were not given", left)
	}
}

// P7.2: what is pushed meanwhile comes in its turn: ahead of the rest, among it, behind it; at the last thing too.
func TestDrainWithPushes(t *testing.T) {
	r := someRand()
	for _, o := range orders() {
		for range 200 {
			p, s := pile.New(o.less), &slow{less: o.plain}
			put := func(x thing) {
				p.Push(x)
				s.push(x)
			}
			for _, x := range named(anyRanks(r, r.IntN(6), 4)...) {
				put(x)
			}
			name := 100
			for x := range p.Drain() {
				want, ok := s.pop()
				if !ok || x != want || p.Len() != len(s.list) {
					t.Fatalf("%s: Drain gives %v, not %v %v", o.name, x, want, ok)
				}
				for range r.IntN(3) * min(1, r.IntN(4)) {
					put(thing{r.IntN(4), name})
					name++
				}
				if name > 150 {
					break
				}
			}
			if name <= 150 && len(s.list) != 0 {
				t.Fatalf("%s: Drain ended ahead of %d things", o.name, len(s.list))
			}
			if got, want := emptied(p), sortedByWords(s.list, o.plain); !slices.Equal(got, want) {
				t.Fatalf("%s: %v is left, not %v", o.name, got, want)
			}
		}
	}
}

// P7.2: a push at the very last thing is given too, again and again.
func TestDrainPushedAtItsEnd(t *testing.T) {
	p := filled(named(0), byRank)
	given := 0
	for x := range p.Drain() {
		if x.name != given {
			t.Fatalf("%v given as number %d", x, given)
		}
		given++
		if given < 1000 {
			p.Push(thing{0, given})
		}
	}
	if given != 1000 || p.Len() != 0 {
		t.Errorf("%d given, %d are left", given, p.Len())
	}
}

// P7.2: pops in the body of a range take from the same pile.
func TestDrainWithPops(t *testing.T) {
	p := filled(named(1, 2, 3, 4, 5, 6, 7), byRank)
	var given, popped []int
	for x := range p.Drain() {
		given = append(given, x.rank)
		if y, ok := p.Pop(); ok {
			popped = append(popped, y.rank)
		}
	}
	if !slices.Equal(given, []int{1, 3, 5, 7}) || !slices.Equal(popped, []int{2, 4, 6}) {
		t.Errorf("%v given, %v popped", given, popped)
	}
}

// P7.2: an iterator that has come to its end gives what is put in later, when it is gone over again.
func TestDrainGoneOverAgain(t *testing.T) {
	p := pile.New(byRank)
	seq := p.Drain()
	for round := range 5 {
		if got := slices.Collect(seq); len(got) != 0 {
			t.Fatalf("an empty pile gives %v", got)
		}
		list := named(anyRanks(someRand(), 3*round, 3)...)
		for _, x := range list {
			p.Push(x)
		}
		if got, want := slices.Collect(seq), sortedByWords(list, byRank); !slices.Equal(got, want) {
			t.Fatalf("%v given, not %v", got, want)
		}
	}
}

// P7.2: the call of Drain takes nothing out, and it gives what is put in between the call and the range.
func TestDrainNeverGoneOver(t *testing.T) {
	p := filled(named(2, 1), byRank)
	seq := p.Drain()
	p.Drain()
	if p.Len() != 2 {
		t.Errorf("%d are in", p.Len())
	}
	p.Push(thing{0, 9})
	if x, ok := p.Pop(); !ok || x != (thing{0, 9}) {
		t.Errorf("%v popped", x)
	}
	p.Push(thing{0, 10})
	if got := slices.Collect(seq); !slices.Equal(got, []thing{{0, 10}, {1, 1}, {2, 0}}) {
		t.Errorf("%v given", got)
	}
}

// P7.2: two iterators of one pile take from the same pile: one range within another.
func TestDrainWithinDrain(t *testing.T) {
	p := filled(named(1, 2, 3, 4, 5, 6, 7, 8), byRank)
	var outer, inner []int
	second := p.Drain()
	for x := range p.Drain() {
		outer = append(outer, x.rank)
		for y := range second {
			inner = append(inner, y.rank)
			if len(inner)%2 == 0 {
				break
			}
		}
	}
	if !slices.Equal(outer, []int{1, 4, 7}) || !slices.Equal(inner, []int{2, 3, 5, 6, 8}) {
		t.Errorf("%v and %v", outer, inner)
	}
}

// P7.2: two iterators of one pile, and one of another, asked in turn.
func TestDrainInTurn(t *testing.T) {
	r := someRand()
	p, s := pile.New(byRank), &slow{less: byRank}
	other := filled(named(7, 7, 7), byRank)
	next := make([]func() (thing, bool), 2)
	for i := range next {
		var stop func()
		next[i], stop = iter.Pull(p.Drain())
		defer stop()
	}
	apart, stop := iter.Pull(other.Drain())
	defer stop()
	for i := range 300 {
		for range 1 + r.IntN(2) {
			x := thing{r.IntN(3), i}
			p.Push(x)
			s.push(x)
		}
		x, ok := next[r.IntN(2)]()
		if want, is := s.pop(); x != want || ok != is {
			t.Fatalf("%v %v given, not %v %v", x, ok, want, is)
		}
		if i < 3 {
			if x, ok := apart(); !ok || x != (thing{7, i}) {
				t.Fatalf("the other pile gives %v %v", x, ok)
			}
		}
	}
	if _, ok := apart(); ok {
		t.Error("the other pile gives more than it holds")
	}
}

package over_test

import (
	"cmp"
	"fmt"
	"math"
	"runtime"
	"slices"
	"strings"
	"sync"
	"testing"
	"time"

	"weir/api"
	"weir/over"
)

// A question is all that the calls may be given.
type question struct {
	name               string
	w                  api.Window
	args               []float64
	counter, perSecond bool
}

// ask: what all calls answer to it. All NaNs are told in one way, and the noughts in two.
func ask(q question) string {
	var b strings.Builder
	tell := func(v float64, ok bool) {
		if v != v {
			fmt.Fprint(&b, "NaN ", ok, " ")
		} else {
			fmt.Fprintf(&b, "%x %v ", math.Float64bits(v), ok)
		}
	}
	fmt.Fprint(&b, over.Known(q.name), " ")
	tell(over.Call(q.name, q.w, q.args))
	tell(over.Extrapolate(q.w, q.counter, q.perSecond))
	tell(over.Instant(q.w, q.counter))
	for _, name := range sortedNames() {
		if n := names()[name].scalars; n <= len(q.args) {
			tell(over.Call(name, q.w, q.args[:n]))
		}
	}
	return b.String()
}

func (c chance) question(slips bool) question {
	q := question{name: pick(c, sortedNames()), w: c.window(7), args: c.numbers(), counter: c.dice.IntN(2) == 0, perSecond: c.dice.IntN(2) == 0}
	if slips {
		q.w = c.spoilt(q.w)
		q.name = pick(c, []string{"", "Rate", "rat", "rates", "absent_over_time", "abs", "\xff", q.name})
		q.args = q.args[:c.dice.IntN(3)]
	}
	return q
}

// quick: the time that a call takes must be no more than one that goes through what it is given once, or nearly so, could take on a slow machine.
func quick(t *testing.T, what string, call func()) {
	t.Helper()
	begin := time.Now()
	call()
	if took := time.Since(begin); took > 20*time.Second {
		t.Errorf("%s: %s", what, took)
	}
}

// P1, rule 1: very many points come to an end, with values of each form, and very many numbers.
func TestGreatest(t *testing.T) {
	const n = 1 << 18
	c := newChance(9)
	for form := range valueForms {
		w, v := api.Window{From: -1, To: 15000 * n, Now: 0}, 0.0
		for i := range n {
			v = c.value(form, v)
			w.Points = append(w.Points, at(15000*int64(i), v))
		}
		for _, name := range sortedNames() {
			quick(t, name, func() {
				if _, ok := over.Call(name, w, some(names()[name].scalars)); !ok {
					t.Errorf("%s of many points has no answer", name)
				}
			})
		}
		w.Points[n-1].T = w.Points[n-2].T
		checkNone(t, "count_over_time", w, nil)
	}
	checkNone(t, "sum_over_time", even(1, 2), make([]float64, 1<<24))
	checkNone(t, "quantile_over_time", even(1, 2), make([]float64, 1<<24))
}

// P1, rule 1: few points asked very often come to an end: the table costs little.
func TestOftenAsked(t *testing.T) {
	w := even(1, 2, 3, 4)
	quick(t, "many calls", func() {
		for range 1 << 20 {
			over.Call("rate", w, nil)
			over.Known("rates")
		}
	})
}

// anyWindow: one of anything that a window's fields can hold.
func (c chance) anyWindow() api.Window {
	times := []int64{math.MinInt64, math.MinInt64 + 1, -bound - 1, -bound, -bound + 1, -1, 0, 1, 2, 1000, bound - 1, bound, bound + 1, math.MaxInt64 - 1, math.MaxInt64}
	w := api.Window{From: pick(c, times), To: pick(c, times), Now: pick(c, times)}
	for range c.dice.IntN(4) {
		w.Points = append(w.Points, api.Sample{T: pick(c, times), V: pick(c, special()), Stale: c.dice.IntN(8) == 0})
	}
	if c.dice.IntN(2) == 0 {
		slices.SortFunc(w.Points, func(a, b api.Sample) int { return cmp.Compare(a.T, b.T) })
	}
	return w
}

// P1, rule 1: no call panics, and each one answers by its words, whatever it is given.
func TestTotal(t *testing.T) {
	c := newChance(10)
	for range 15000 {
		checkWords(t, c.anyWindow(), pick(c, special()), pick(c, special()))
	}
	for _, name := range append(sortedNames(), wrongNames()...) {
		for range 10 {
			w, args := c.anyWindow(), []float64{pick(c, special()), pick(c, special()), pick(c, special())}[:c.dice.IntN(4)]
			v, ok := over.Call(name, w, args)
			want, wantOK := wordsCall(name, w, args)
			verify(t, v, ok, want, wantOK, name, w, args)
		}
	}
}

// P1, rules 3 and 4: beside a false there is 0; an empty list is as good as nil.
func TestNothing(t *testing.T) {
	c := newChance(11)
	for _, name := range sortedNames() {
		for _, args := range [][]float64{nil, {}, make([]float64, 0, 9)} {
			w := even(1, 2, 3)
			v, ok := over.Call(name, w, args)
			want, wantOK := wordsCall(name, w, nil)
			verify(t, v, ok, want, wantOK, name, w, args)
			for _, points := range [][]api.Sample{nil, {}, make([]api.Sample, 0, 9)} {
				checkNone(t, name, api.Window{Points: points, To: 5}, args)
			}
		}
	}
	for range 5000 {
		q := c.question(true)
		for _, name := range append(sortedNames(), q.name) {
			if v, ok := over.Call(name, q.w, q.args); !ok && !same(v, 0) {
				t.Errorf("%s of %+v = %v, %v", name, q.w, v, ok)
			}
		}
		if v, ok := over.Extrapolate(q.w, q.counter, q.perSecond); !ok && !same(v, 0) {
			t.Errorf("Extrapolate of %+v = %v, %v", q.w, v, ok)
		}
		if v, ok := over.Instant(q.w, q.counter); !ok && !same(v, 0) {
			t.Errorf("Instant of %+v = %v, %v", q.w, v, ok)
		}
	}
}

// marked: a list with spare room in which marks lie.
func marked[T any](list []T, mark T) []T {
	made := slices.Clone(list)
	for range 9 {
		made = append(made, mark)
	}
	return made[:len(list)]
}

func (q question) room() string {
	return fmt.Sprint(q.w.Points[:cap(q.w.Points)], q.args[:cap(q.args)])
}

// P1, rule 5: what is handed in stays as it is, its spare room too, and what that room holds counts for nothing.
func TestGivenStays(t *testing.T) {
	c := newChance(12)
	for i := range 3000 {
		q := c.question(i%3 == 0)
		want := ask(q)
		q.w.Points, q.args = marked(q.w.Points, api.Sample{T: 7, V: 1e9, Stale: true}), marked(q.args, 99)
		before := q.room()
		if got := ask(q); got != want {
			t.Fatalf("%+v: %s, and with marks behind the lists %s", q, want, got)
		}
		if after := q.room(); after != before {
			t.Fatalf("%s is left of %s", after, before)
		}
	}
}

// P1, rules 5 and 6: nothing that is handed in is kept: lists that the caller changes are asked anew, and are answered as ones that were never asked before.
func TestGivenIsNotKept(t *testing.T) {
	c := newChance(13)
	for i := range 3000 {
		one, two := c.question(i%3 == 0), c.question(false)
		n, k := min(len(one.w.Points), len(two.w.Points)), min(len(one.args), len(two.args))
		two.w.Points, two.args = two.w.Points[:n], two.args[:k]
		want, wantFirst := ask(two), ask(one)
		mine := one
		mine.w, mine.args = copied(one.w), slices.Clone(one.args)
		ask(mine)
		mine.name, mine.counter, mine.perSecond = two.name, two.counter, two.perSecond
		mine.w.From, mine.w.To, mine.w.Now = two.w.From, two.w.To, two.w.Now
		mine.w.Points, mine.args = mine.w.Points[:copy(mine.w.Points, two.w.Points)], mine.args[:copy(mine.args, two.args)]
		if got := ask(mine); got != want {
			t.Fatalf("%+v: %s, and after others in the same lists %s", two, want, got)
		}
		if got := ask(one); got != wantFirst {
			t.Fatalf("%+v: %s, and later %s", one, wantFirst, got)
		}
	}
}

// P1, rule 6, and P2: the same question has the same answer, whatever was asked between.
func TestSameAnswerAgain(t *testing.T) {
	c := newChance(14)
	var list []question
	var want []string
	for i := range 1000 {
		list = append(list, c.question(i%3 == 0))
		want = append(want, ask(list[i]))
	}
	for i := len(list) - 1; i >= 0; i-- {
		if got := ask(list[i]); got != want[i] {
			t.Fatalf("%+v: %s, and later %s", list[i], want[i], got)
		}
	}
}

// settled: how many goroutines there are, once those have ended that the runtime or an earlier test still had: at most n, unless one was left behind since there were n.
func settled(n int) int {
	now := runtime.NumGoroutine()
	for tries := 0; now > n && tries < 500; tries++ {
		time.Sleep(10 * time.Millisecond)
		now = runtime.NumGoroutine()
	}
	return now
}

// P1, rule 10: calls beside each other, over the same lists too, answer what they would have answered alone; and no call begins a goroutine.
func TestBesideEachOther(t *testing.T) {
	c := newChance(15)
	var list []question
	var want []string
	before := runtime.NumGoroutine()
	for i := range 200 {
		list = append(list, c.question(i%3 == 0))
		want = append(want, ask(list[i]))
	}
	if after := settled(before); after > before {
		t.Errorf("%d goroutines, and then %d", before, after)
	}
	var all sync.WaitGroup
	for g := range 8 {
		all.Go(func() {
			for i := range list {
				k := (i*(2*g+1) + g) % len(list)
				if got := ask(list[k]); got != want[k] {
					t.Errorf("%s, and beside others %s", want[k], got)
				}
			}
		})
	}
	all.Wait()
}

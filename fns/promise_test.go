package fns_test

import (
	"fmt"
	"slices"
	"testing"

	"weir/api"
	"weir/fns"
)

// isCanonical: is it sound, and in canonical order?
func isCanonical(v []api.Elem) bool {
	return wordsSound(v) && slices.IsSortedFunc(v, func(a, b api.Elem) int { return wordsCompare(a.Labels, b.Labels) })
}

// P23.3: every vector that is answered is sound; and all but Sort's are in canonical order.
func TestAnswersAreSound(t *testing.T) {
	c, long := newChance(20), 0
	for i := range 10000 {
		q := c.question(i%4 == 0)
		for call, v := range ask(q).vectors {
			sorted := call == "Sort" || call == "sort" || call == "sort_desc"
			if !wordsSound(v) || !sorted && !isCanonical(v) {
				t.Errorf("%s answers %s", call, short(told(v)))
			}
			if len(v) > 3 {
				long++
			}
		}
	}
	if long < 5000 {
		t.Errorf("%d long answers", long)
	}
}

// P23.4: Sort's answer holds just the elements that were handed in, each once.
func TestSortHoldsAll(t *testing.T) {
	c := newChance(21)
	for range 10000 {
		v := c.vector(12, false)
		for _, down := range []bool{false, true} {
			got, e := fns.Sort(v, down)
			if e != 0 || !sameElems(canonical(got), canonical(v)) {
				t.Errorf("Sort of %s = %s, %d", told(v), told(got), e)
			}
		}
	}
}

// P23.5: the order in which a vector's elements are handed in counts for nothing.
func TestAnyOrder(t *testing.T) {
	c := newChance(22)
	for i := range 4000 {
		q := c.question(i%4 == 0)
		want := ask(q).text
		for range 4 {
			c.dice.Shuffle(len(q.v), func(i, j int) { q.v[i], q.v[j] = q.v[j], q.v[i] })
			for _, a := range q.args {
				c.dice.Shuffle(len(a.Vector), func(i, j int) { a.Vector[i], a.Vector[j] = a.Vector[j], a.Vector[i] })
			}
			c.dice.Shuffle(len(q.ms), func(i, j int) { q.ms[i], q.ms[j] = q.ms[j], q.ms[i] })
			if got := ask(q).text; got != want {
				t.Errorf("%s, and in another order %s", short(want), short(got))
			}
		}
	}
	for _, v := range permuted(vec(`up{a="1",le="1"} 3; up{a="2",le="2"} 1; down{b="1",le="+Inf"} 3; {A="1",b="1"} NaN; {le="1"} 0`)) {
		for _, name := range names() {
			s := signatures()[name]
			var l []api.Value
			for _, kind := range s.types[:s.least] {
				l = append(l, map[int]api.Value{api.ValScalar: numberArg(0.5), api.ValString: textArg("b"), api.ValVector: vectorArg(v)}[kind])
			}
			want, wantE := wordsCall(name, l, 5)
			verify(t, name, l, 5, want, wantE)
		}
		checkReplace(t, v, "c", "$1", "a", "(.*)")
		checkJoin(t, v, "c", "-", []string{"a", "b"})
		checkHistogram(t, 0.5, v)
		checkSort(t, v, false)
		checkSort(t, v, true)
	}
}

// P23.5: of elements that are all alike but for one label, the answers differ by that label alone, whichever order they come in.
func TestManyElements(t *testing.T) {
	var v []api.Elem
	for i := range 300 {
		v = append(v, api.Elem{Labels: set("__name__", fmt.Sprint("m", i*7%300), "a", fmt.Sprintf("%03d", i*11%300), "le", fmt.Sprint(i%5)), V: float64(i % 3)})
	}
	for range 3 {
		slices.Reverse(v[100:])
		for _, name := range append(plainNames(), calendarNames()...) {
			if e := checkCall(t, name, args(v), 0); e != 0 {
				t.Errorf("%s: %d", name, e)
			}
		}
		checkReplace(t, v, "a", "${2}$1", "a", "(.)(.*)")
		checkJoin(t, v, "a", "-", []string{"le", "a"})
		checkHistogram(t, 0.5, v)
		checkSort(t, v, true)
	}
}

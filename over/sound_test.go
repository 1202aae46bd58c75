package over_test

import (
	"math"
	"testing"

	"weir/api"
	"weir/over"
)

// checkSound: whether a window with two points or more counts as sound in every call.
func checkSound(t *testing.T, w api.Window, want bool) {
	t.Helper()
	if wordsSound(w) != want {
		t.Errorf("%+v: by the words it is sound: %v", w, !want)
	}
	for name, a := range names() {
		if _, ok := over.Call(name, w, some(a.scalars)); ok != want {
			t.Errorf("%s of %+v: %v", name, w, ok)
		}
	}
	for _, counter := range []bool{false, true} {
		if _, ok := over.Instant(w, counter); ok != want {
			t.Errorf("Instant of %+v: %v", w, ok)
		}
		for _, perSecond := range []bool{false, true} {
			if _, ok := over.Extrapolate(w, counter, perSecond); ok != want {
				t.Errorf("Extrapolate of %+v: %v", w, ok)
			}
		}
	}
	checkWords(t, w, some(2)...)
}

// P20.1: the window's own times: just at the bounds and beyond them.
func TestBounds(t *testing.T) {
	for _, c := range []struct {
		from, to, now int64
		want          bool
	}{
		{0, 10, 10, true}, {4, 6, 5, true}, {4, 6, -99, true}, {4, 6, 99, true},
		{-bound, 10, 0, true}, {-bound - 1, 10, 0, false}, {math.MinInt64, 10, 0, false}, {math.MinInt64 + 1, 10, 0, false},
		{0, bound, 0, true}, {0, bound + 1, 0, false}, {0, math.MaxInt64, 0, false},
		{0, 10, bound, true}, {0, 10, bound + 1, false}, {0, 10, math.MaxInt64, false}, {0, 10, -bound, true}, {0, 10, -bound - 1, false}, {0, 10, math.MinInt64, false},
		{-bound, bound, bound, true}, {-bound, bound, -bound, true}, {-bound - 1, bound + 1, 0, false}, {math.MinInt64, math.MaxInt64, 0, false}, {-bound, bound + 1, 0, false}, {-bound - 1, bound, 0, false},
		{10, 0, 5, false}, {7, 3, 5, false}, {math.MaxInt64, math.MinInt64, 0, false}, {bound, -bound, 0, false}, {6, 6, 5, false}, {5, 6, 5, false}, {4, 5, 5, false},
	} {
		checkSound(t, window(c.from, c.to, c.now, 5, 1, 6, 2), c.want)
	}
}

// P20.1: a window whose points are few has no answer where it isn't sound: one point, and none.
func TestBoundsOfFewPoints(t *testing.T) {
	for _, c := range []struct {
		from, to, now int64
		want          bool
	}{{0, 10, 0, true}, {4, 5, 0, true}, {5, 5, 0, false}, {5, 10, 0, false}, {4, 4, 0, false}, {6, 4, 0, false}, {0, 10, bound + 1, false}, {-bound - 1, 10, 0, false}, {0, bound + 1, 0, false}} {
		w := window(c.from, c.to, c.now, 5, 7)
		if v, ok := over.Call("sum_over_time", w, nil); ok != c.want || ok && v != 7 {
			t.Errorf("sum_over_time of %+v = %v, %v", w, v, ok)
		}
		checkWords(t, w, some(2)...)
		w.Points = nil
		checkWords(t, w, some(2)...)
		checkNone(t, "count_over_time", w, nil)
	}
}

// P20.1: the points' times: rising, the first above From, the last not above To; at the greatest times too.
func TestTimesOfPoints(t *testing.T) {
	for _, c := range []struct {
		times []int64
		want  bool
	}{
		{[]int64{1, 2, 3}, true}, {[]int64{1, 10}, true}, {[]int64{9, 10}, true}, {[]int64{1, 2, 3, 4, 5, 6, 7, 8, 9, 10}, true},
		{[]int64{0, 5}, false}, {[]int64{-1, 5}, false}, {[]int64{math.MinInt64, 5}, false}, {[]int64{0, 10}, false},
		{[]int64{5, 11}, false}, {[]int64{5, math.MaxInt64}, false}, {[]int64{11, 12}, false}, {[]int64{-5, -3}, false},
		{[]int64{5, 5}, false}, {[]int64{5, 5, 6}, false}, {[]int64{4, 5, 5}, false}, {[]int64{4, 5, 5, 6}, false}, {[]int64{10, 10}, false},
		{[]int64{6, 5}, false}, {[]int64{6, 5, 7}, false}, {[]int64{5, 7, 6}, false}, {[]int64{1, 11, 2}, false}, {[]int64{1, 0, 2}, false}, {[]int64{3, math.MinInt64, 4}, false}, {[]int64{3, math.MaxInt64, 4}, false}, {[]int64{10, 9, 8}, false},
	} {
		w := api.Window{To: 10, Now: 10}
		for _, at := range c.times {
			w.Points = append(w.Points, api.Sample{T: at, V: float64(at % 100)})
		}
		checkSound(t, w, c.want)
	}
	checkSound(t, window(-bound, bound, 0, -bound+1, 1, bound, 2), true)
	checkSound(t, window(-bound, bound, 0, -bound, 1, bound, 2), false)
	checkSound(t, api.Window{From: -bound, To: bound, Points: []api.Sample{at(0, 1), at(bound+1, 2)}}, false)
	checkSound(t, window(-bound, -bound+2, 0, -bound+1, 1, -bound+2, 2), true)
	checkSound(t, window(bound-2, bound, 0, bound-1, 1, bound, 2), true)
}

// P20.1: one stale point, wherever it stands, and the window isn't sound.
func TestStale(t *testing.T) {
	for n := 2; n < 6; n++ {
		for i := range n {
			w := even([]float64{1, 2, 3, 4, 5}[:n]...)
			checkSound(t, w, true)
			w.Points[i].Stale = true
			checkSound(t, w, false)
			w.Points[i].V = nan
			checkSound(t, w, false)
		}
	}
	w := even(1)
	w.Points[0].Stale = true
	checkNone(t, "count_over_time", w, nil)
}

// spoilt: the window with one slip of any kind, or none where the dice say so.
func (c chance) spoilt(w api.Window) api.Window {
	w = copied(w)
	far := []int64{bound, bound + 1, -bound, -bound - 1, math.MaxInt64, math.MinInt64, 0}
	if len(w.Points) == 0 {
		w.From, w.To = pick(c, far), pick(c, far)
		return w
	}
	i, k := c.dice.IntN(len(w.Points)), c.dice.IntN(len(w.Points))
	switch c.dice.IntN(9) {
	case 0:
		w.From = pick(c, append(far, w.Points[0].T, w.Points[0].T-1, w.To, w.To+1))
	case 1:
		w.To = pick(c, append(far, w.Points[len(w.Points)-1].T, w.Points[len(w.Points)-1].T-1, w.From, w.From-1))
	case 2:
		w.Now = pick(c, far)
	case 3:
		w.Points[i].Stale = true
	case 4:
		w.Points[i].T = w.Points[k].T
	case 5:
		w.Points[i], w.Points[k] = w.Points[k], w.Points[i]
	case 6:
		w.Points[i].T += int64(c.dice.IntN(5) - 2)
	case 7:
		w.Points[i].T = pick(c, append(far, w.From, w.From+1, w.To, w.To+1))
	case 8:
		w.From, w.To = w.To, w.From
	}
	return w
}

// P20.1: windows with a slip by chance, all calls by the words.
func TestSlips(t *testing.T) {
	c := newChance(3)
	sound, unsound := 0, 0
	for range 6000 {
		w := c.spoilt(c.window(5))
		checkWords(t, w, c.numbers()...)
		if wordsSound(w) {
			sound++
		} else {
			unsound++
		}
	}
	if sound < 1000 || unsound < 1000 {
		t.Errorf("%d sound, %d unsound", sound, unsound)
	}
}

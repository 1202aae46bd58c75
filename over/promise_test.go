package over_test

import (
	"math"
	"slices"
	"testing"

	"weir/api"
	"weir/over"
)

// hangsOnEnds: the functions that may answer otherwise for other ends or another time of evaluation.
func hangsOnEnds() []string {
	return []string{"rate", "increase", "delta", "predict_linear"}
}

// otherEnds: sound windows with the same points.
func (c chance) otherEnds(w api.Window) []api.Window {
	first, last := w.Points[0].T, w.Points[len(w.Points)-1].T
	var out []api.Window
	for _, from := range []int64{first - 1, first - 60000, -bound} {
		for _, to := range []int64{last, last + 1, last + 60000, bound} {
			for _, now := range []int64{to, first, 0, bound, -bound, c.dice.Int64N(bound)} {
				out = append(out, api.Window{Points: w.Points, From: from, To: to, Now: now})
			}
		}
	}
	return out
}

// P20.2: the window's ends and the time of evaluation count for nothing but in four functions.
func TestSamePoints(t *testing.T) {
	c := newChance(4)
	for range 300 {
		w, numbers := c.window(8), c.numbers()
		if len(w.Points) == 0 {
			continue
		}
		for _, other := range c.otherEnds(w) {
			if !wordsSound(other) {
				t.Fatalf("%+v isn't sound", other)
			}
			for name, a := range names() {
				if slices.Contains(hangsOnEnds(), name) {
					continue
				}
				want, wantOK := over.Call(name, w, numbers[:a.scalars])
				v, ok := over.Call(name, other, numbers[:a.scalars])
				verify(t, v, ok, want, wantOK, name, w, other, numbers)
			}
			for _, counter := range []bool{false, true} {
				want, wantOK := over.Instant(w, counter)
				v, ok := over.Instant(other, counter)
				verify(t, v, ok, want, wantOK, "Instant", w, other, counter)
			}
		}
	}
}

// P20.2: of the four, three ask for the ends alone and the fourth for the time of evaluation alone; and each one does ask.
func TestFourThatAsk(t *testing.T) {
	w := even(10, 12, 13, 17)
	later, wider := w, w
	later.Now, wider.To, wider.From = 90000, 67000, -1000
	for _, name := range hangsOnEnds() {
		args := some(names()[name].scalars)
		plain, _ := over.Call(name, w, args)
		byNow, _ := over.Call(name, later, args)
		byEnds, _ := over.Call(name, wider, args)
		if asksNow := name == "predict_linear"; same(plain, byNow) == asksNow || same(plain, byEnds) != asksNow {
			t.Errorf("%s: %v, with another Now %v, with other ends %v", name, plain, byNow, byEnds)
		}
	}
}

// P20.3: what is answered is the value of a point.
func TestOneOfTheValues(t *testing.T) {
	c := newChance(5)
	var windows []api.Window
	for _, l := range values() {
		windows = append(windows, even(l...))
	}
	for range 6000 {
		windows = append(windows, c.window(9))
	}
	for _, w := range windows {
		for _, ask := range []struct {
			name string
			args []float64
		}{{"min_over_time", nil}, {"max_over_time", nil}, {"first_over_time", nil}, {"last_over_time", nil}, {"quantile_over_time", []float64{0}}, {"quantile_over_time", []float64{minus}}, {"quantile_over_time", []float64{1}}} {
			v, ok := over.Call(ask.name, w, ask.args)
			if ok != (len(w.Points) > 0) {
				t.Errorf("%s of %+v: %v", ask.name, w, ok)
			}
			if ok && !slices.ContainsFunc(listed(w), func(other float64) bool { return same(v, other) }) {
				t.Errorf("%s of %+v = %v", ask.name, w, v)
			}
		}
	}
}

// P20.3: and it is the least, the greatest, the first or the last of them.
func TestWhichOfTheValues(t *testing.T) {
	c := newChance(6)
	for range 3000 {
		w := c.window(9)
		if len(w.Points) == 0 {
			continue
		}
		low, _ := over.Call("min_over_time", w, nil)
		high, _ := over.Call("max_over_time", w, nil)
		for _, v := range listed(w) {
			if v < low || v > high || v == v && (low != low || high != high) {
				t.Errorf("min and max of %+v: %v, %v", w, low, high)
			}
		}
		if slices.ContainsFunc(listed(w), math.IsNaN) {
			continue
		}
		lowest, _ := over.Call("quantile_over_time", w, []float64{0})
		highest, _ := over.Call("quantile_over_time", w, []float64{1})
		if lowest != low || highest != high {
			t.Errorf("quantiles of %+v: %v, %v; want %v, %v", w, lowest, highest, low, high)
		}
	}
}

// checkTakesNothing: P20.4 for one window of two points or more; how g was is told.
func checkTakesNothing(t *testing.T, w api.Window) (above, nought bool) {
	t.Helper()
	for name, counter := range map[string]bool{"increase": true, "delta": false} {
		g := wordsGrowth(listed(w), counter)
		v, ok := over.Call(name, w, nil)
		switch {
		case !ok:
			t.Errorf("%s of %+v has no answer", name, w)
		case g > 0 && finite(g):
			above = true
			if !(v >= g) {
				t.Errorf("%s of %+v = %v, but it grew by %v", name, w, v, g)
			}
		case g == 0:
			nought = true
			if v != 0 {
				t.Errorf("%s of %+v = %v, but it didn't grow", name, w, v)
			}
		}
	}
	return above, nought
}

// P20.4: extrapolating never takes away: with values of each sort, by chance, at ends that are near, at the cut and far.
func TestTakesNothingAway(t *testing.T) {
	c := newChance(7)
	grew, didNot := 0, 0
	count := func(w api.Window) {
		if len(w.Points) < 2 {
			return
		}
		above, nought := checkTakesNothing(t, w)
		if above {
			grew++
		}
		if nought {
			didNot++
		}
	}
	for _, l := range values() {
		count(even(l...))
		if len(l) > 2 {
			count(ends(1, 0, l...))
			count(ends(10999, 10999, l...))
			count(ends(11000, 11000, l...))
		}
	}
	for range 30000 {
		count(c.window(6))
	}
	for _, a := range special() {
		for _, b := range special() {
			count(even(a, b))
			count(window(-1, 1, 0, 0, a, 1, b))
			count(window(-bound, bound, 0, -bound+1, a, -bound+2, b))
		}
	}
	if grew < 5000 || didNot < 500 {
		t.Errorf("%d windows grew, %d didn't", grew, didNot)
	}
}

// shifts: by how much a sound window may be moved and stay sound, up to the greatest times on both sides.
func (c chance) shifts(w api.Window) []int64 {
	down, up := -bound-min(w.From, w.Now), bound-max(w.To, w.Now)
	return []int64{down, up, down + 1, up - 1, 0, max(down, -1), min(up, 1), max(down, -86400000), down + c.dice.Int64N(up-down+1)}
}

// P20.5: a window that is moved in time is answered as it was.
func TestMovedInTime(t *testing.T) {
	c := newChance(8)
	for range 1500 {
		w, numbers := c.window(8), c.numbers()
		if c.dice.IntN(2) == 0 {
			w.Now = w.To + int64(c.dice.IntN(100000)) // so that there is room to move
		}
		for _, by := range c.shifts(w) {
			later := moved(w, by)
			if !wordsSound(later) {
				t.Fatalf("%+v moved by %d isn't sound", w, by)
			}
			for name, a := range names() {
				want, wantOK := over.Call(name, w, numbers[:a.scalars])
				v, ok := over.Call(name, later, numbers[:a.scalars])
				verify(t, v, ok, want, wantOK, name, w, by, numbers)
			}
			for _, counter := range []bool{false, true} {
				want, wantOK := over.Instant(w, counter)
				v, ok := over.Instant(later, counter)
				verify(t, v, ok, want, wantOK, "Instant", w, by, counter)
				for _, perSecond := range []bool{false, true} {
					want, wantOK := over.Extrapolate(w, counter, perSecond)
					v, ok := over.Extrapolate(later, counter, perSecond)
					verify(t, v, ok, want, wantOK, "Extrapolate", w, by, counter, perSecond)
				}
			}
		}
	}
}

// P20.5: beyond the greatest times the moved window isn't sound any more, and has no answer.
func TestMovedTooFar(t *testing.T) {
	w := even(1, 2, 3, 4)
	for _, by := range []int64{bound - 60000, -bound} {
		checkSound(t, moved(w, by), true)
	}
	for _, by := range []int64{bound - 59999, -bound - 1, math.MaxInt64 - 60000, math.MinInt64} {
		checkSound(t, moved(w, by), false)
	}
}

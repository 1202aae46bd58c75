package engine_test

import (
	"math"
	"testing"

	"weir/api"
	"weir/engine"
)

// P24.1: Steps: how many there are, and what is refused, the first reason first.
func TestSteps(t *testing.T) {
	const first, last = api.MinTime, api.MaxTime
	for _, c := range []struct {
		start, end, step int64
		n                int
		e                api.Errno
	}{
		{0, 0, 1, 1, 0},
		{0, 0, math.MaxInt64, 1, 0},
		{0, 10, 5, 3, 0},
		{0, 9, 5, 2, 0},
		{0, 11, 5, 3, 0},
		{0, 4, 5, 1, 0},
		{-7, 7, 7, 3, 0},
		{-8, 7, 7, 3, 0},
		{0, 10999, 1, 11000, 0},
		{0, 11000, 1, 0, api.ErrSteps},
		{-5, 10994, 1, 11000, 0},
		{-5, 10995, 1, 0, api.ErrSteps},
		{0, 10999*60000 + 59999, 60000, 11000, 0},
		{0, 11000 * 60000, 60000, 0, api.ErrSteps},
		{first, last, 1, 0, api.ErrSteps},
		{first, last, last - first, 2, 0},
		{first, last, last - first + 1, 1, 0},
		{first, last, math.MaxInt64, 1, 0},
		{first, first, 1, 1, 0},
		{last, last, 1, 1, 0},
		{first, last, (last - first) / 10999, 11000, 0},
		{first, last, (last - first) / 11000, 0, api.ErrSteps},
		{first - 1, 0, 60000, 0, api.ErrTime},
		{last + 1, last + 2, 1, 0, api.ErrTime},
		{0, last + 1, 1, 0, api.ErrTime},
		{0, first - 1, 1, 0, api.ErrTime},
		{math.MinInt64, math.MaxInt64, 1, 0, api.ErrTime},
		{math.MaxInt64, math.MinInt64, 0, 0, api.ErrTime},
		{first - 1, 0, 0, 0, api.ErrTime},
		{0, last + 1, -1, 0, api.ErrTime},
		{1, 0, 1, 0, api.ErrArg},
		{1, 0, 0, 0, api.ErrArg},
		{0, 10, 0, 0, api.ErrArg},
		{0, 10, -1, 0, api.ErrArg},
		{0, 0, 0, 0, api.ErrArg},
		{0, 0, math.MinInt64, 0, api.ErrArg},
		{first, last, 0, 0, api.ErrArg},
		{last, first, 1, 0, api.ErrArg},
	} {
		if n, e := engine.Steps(c.start, c.end, c.step); n != c.n || e != c.e {
			t.Errorf("Steps(%d, %d, %d) = %d, %d; want %d, %d", c.start, c.end, c.step, n, e, c.n, c.e)
		}
	}
}

// P24.1: Steps answers what the words say, of numbers near all its edges.
func TestStepsAsTheWordsSay(t *testing.T) {
	c := newChance(2)
	told := map[api.Errno]int{}
	for range 200000 {
		near := func() int64 {
			base := pick[int64](c, 0, 0, 0, 60000, 11000, api.MinTime, api.MaxTime, math.MinInt64+9, math.MaxInt64-9)
			return base + int64(c.dice.IntN(19)-9)
		}
		start, end, step := near(), near(), near()
		if c.yes() {
			end = start + int64(c.dice.IntN(40000)) - 500
			step = int64(c.dice.IntN(6))
		}
		want, wantE := wordsSteps(start, end, step)
		if n, e := engine.Steps(start, end, step); n != want || e != wantE {
			t.Fatalf("Steps(%d, %d, %d) = %d, %d; want %d, %d", start, end, step, n, e, want, wantE)
		}
		told[wantE]++
	}
	for _, e := range []api.Errno{0, api.ErrTime, api.ErrArg, api.ErrSteps} {
		if told[e] < 1000 {
			t.Errorf("%d answers with error %d", told[e], e)
		}
	}
}

package calc_test

import (
	"math"
	"math/rand/v2"
	"testing"

	"weir/api"
	"weir/calc"
)

// points: samples from times and values by turns.
func points(tv ...float64) []api.Sample {
	var out []api.Sample
	for i := 0; i < len(tv); i += 2 {
		out = append(out, api.Sample{T: int64(tv[i]), V: tv[i+1]})
	}
	return out
}

func checkLine(t *testing.T, ss []api.Sample, at int64, slope, value float64) {
	t.Helper()
	s, v := calc.Line(ss, at)
	check(t, s, slope, "the slope of Line", ss, at)
	check(t, v, value, "the value of Line", ss, at)
}

// P6.11: the chapter's examples; none, one sample, equal values, infinite values, NaN.
func TestLineExamples(t *testing.T) {
	up := points(0, 1, 1000, 3, 2000, 5)
	checkLine(t, up, 0, 2, 1)
	checkLine(t, up, 2000, 2, 5)
	checkLine(t, up, -1000, 2, -1)
	checkLine(t, points(0, 1, 500, 2), 0, 2, 1)
	checkLine(t, points(5, 7, 9, 7), 0, 0, 7)
	checkLine(t, nil, 0, nan, nan)
	checkLine(t, []api.Sample{}, 5, nan, nan)
	for _, v := range []float64{0, minus, 1, -1, nan, greatest, least} {
		checkLine(t, points(5, v), 0, 0, v)
	}
	checkLine(t, points(5, inf), 0, nan, nan)
	checkLine(t, points(5, -inf), 0, nan, nan)
	checkLine(t, points(5, inf, 9, inf), 0, nan, nan)
	checkLine(t, points(5, -inf, 9, -inf, 10, -inf), 0, nan, nan)
	checkLine(t, points(5, 0, 9, minus), 0, 0, 0)
	checkLine(t, points(5, minus, 9, 0), 0, 0, minus)
	checkLine(t, points(5, nan, 9, nan), 0, nan, nan)
	checkLine(t, points(5, 1, 9, nan), 0, nan, nan)
	checkLine(t, points(5, nan, 9, 1), 0, nan, nan)
	checkLine(t, points(5, inf, 9, -inf), 0, nan, nan)
	checkLine(t, points(5, inf, 9, 1), 0, nan, nan)
	checkLine(t, points(5, 1, 5, 2), 5, nan, nan) // upright: it has no slope
	checkLine(t, []api.Sample{{T: math.MinInt64, V: 7}, {T: math.MaxInt64, V: 7}}, math.MaxInt64, 0, 7)
}

// P6.11: the differences of times wrap round, so that both ends of int64 are next to one another.
func TestLineWrapsRound(t *testing.T) {
	ss := []api.Sample{{T: math.MaxInt64 - 999, V: 1}, {T: math.MinInt64, V: 3}, {T: math.MinInt64 + 1000, V: 5}}
	checkLine(t, ss, math.MinInt64, 2, 3)
	checkLine(t, ss, math.MaxInt64-999, 2, 1)
}

// P6.11: by its words; with the samples and at moved together the answer is the same; Stale counts for nothing.
func TestLineByWords(t *testing.T) {
	r := someRand()
	for _, l := range lists() {
		ss := sampled(r, l)
		for _, at := range []int64{0, math.MaxInt64, math.MinInt64, int64(r.Uint64()), firstTime(ss), firstTime(ss) + 60000} {
			slope, value := wordsLine(ss, at)
			checkLine(t, ss, at, slope, value)
			by := int64(r.Uint64())
			checkLine(t, moved(ss, by), at+by, slope, value)
		}
	}
}

func firstTime(ss []api.Sample) int64 {
	if len(ss) == 0 {
		return 0
	}
	return ss[0].T
}

// moved: the samples at times by so much later, each with Stale turned over.
func moved(ss []api.Sample, by int64) []api.Sample {
	var out []api.Sample
	for _, s := range ss {
		out = append(out, api.Sample{T: s.T + by, V: s.V, Stale: !s.Stale})
	}
	return out
}

func checkTurn(t *testing.T, ss []api.Sample, period int64, re, im float64) {
	t.Helper()
	c := calc.Turn(ss, period)
	check(t, real(c), re, "the real part of Turn", ss, period)
	check(t, imag(c), im, "the imaginary part of Turn", ss, period)
}

// P6.13: the chapter's example; each eighth, from its first millisecond to its last; the signs of noughts.
func TestTurnExamples(t *testing.T) {
	checkTurn(t, points(100, 2, 2100, 3), 8000, 2, 3)
	checkTurn(t, nil, 8000, 0, 0)
	checkTurn(t, []api.Sample{}, 1, 0, 0)
	re, im := []float64{1, half, 0, -half, -1, -half, 0, half}, []float64{0, half, 1, half, 0, -half, -1, -half}
	for k := range 8 {
		for _, d := range []int{0, 1, 500, 999} {
			for _, v := range []float64{1, 3, -7, 0.1} {
				at := float64(1000*k + d)
				checkTurn(t, points(7, 0, 7+at, v), 8000, 0+v*re[k], 0+v*im[k])
				checkTurn(t, points(7, 0, 7+at-8000, v), 8000, 0+v*re[k], 0+v*im[k])
				checkTurn(t, points(7, 0, 7+at-80000, v), 8000, 0+v*re[k], 0+v*im[k])
				checkTurn(t, points(7, 0, 7+at+80000, v), 8000, 0+v*re[k], 0+v*im[k])
			}
		}
	}
	checkTurn(t, points(0, minus), 8, 0, 0)
	checkTurn(t, points(0, 0, 4, -1, 4, 1), 8, 0, 0)
	checkTurn(t, points(0, inf), 8, inf, nan)
	checkTurn(t, points(0, 0, 1, -inf), 8, -inf, -inf)
	checkTurn(t, points(0, nan), 8, nan, nan)
	checkTurn(t, points(0, 0, 1, nan), 8, nan, nan)
	checkTurn(t, points(0, 1e100, 8, 1, 16, -1e100), 8, 0, 0) // plain sums: the 1 is lost
	checkTurn(t, points(0, 1, 1, 2, 2, 3, 3, 4), 1, 10, 0)    // with the period 1 all stand in the first eighth
}

// P6.13, P6.14: periods at the ends and beyond them.
func TestPeriods(t *testing.T) {
	swing := points(0, 1, 4000, -1, 8000, 1, 12000, -1)
	for _, period := range []int64{0, -1, -8000, math.MinInt64, api.MaxDur + 1, math.MaxInt64} {
		checkTurn(t, swing, period, 0, 0)
		checkTurn(t, points(0, nan), period, 0, 0)
		checkTurn(t, nil, period, 0, 0)
		check(t, calc.Beat(swing, period), nan, "Beat", period)
		check(t, calc.Beat(nil, period), nan, "Beat of none", period)
	}
	for _, period := range []int64{1, 2, 7, 8, 9, api.MaxDur - 1, api.MaxDur} {
		ss := []api.Sample{{T: 5, V: 1}, {T: 5 + period/8, V: 2}, {T: 5 + period/8 + 1, V: 4}, {T: 4 + period, V: 8}, {T: 4, V: 16}, {T: 5 - period, V: 32}, {T: 5 + period/2, V: 64}}
		re, im := wordsTurn(ss, period)
		checkTurn(t, ss, period, re, im)
		check(t, calc.Beat(ss, period), wordsBeat(ss, period), "Beat", period)
	}
	checkTurn(t, points(0, 1, api.MaxDur-1, 1), api.MaxDur, 1+half, -half)
}

// P6.13: times at both ends of int64, with the difference that wraps round.
func TestTurnWrapsRound(t *testing.T) {
	ends := []int64{math.MinInt64, math.MinInt64 + 1, math.MinInt64 + 5000, -1, 0, 1, math.MaxInt64 - 5000, math.MaxInt64 - 1, math.MaxInt64}
	for _, first := range ends {
		for _, then := range ends {
			for _, period := range []int64{1, 3, 8, 8000, 86400000, api.MaxDur - 3, api.MaxDur} {
				ss := []api.Sample{{T: first, V: 1}, {T: then, V: 5}}
				re, im := wordsTurn(ss, period)
				checkTurn(t, ss, period, re, im)
			}
		}
	}
	checkTurn(t, []api.Sample{{T: math.MaxInt64, V: 0}, {T: math.MinInt64, V: 5}}, 4, 0, 5)
}

// anyPeriod: a period of any size that is taken.
func anyPeriod(r *rand.Rand) int64 {
	return 1 + r.Int64N(api.MaxDur>>r.IntN(48))
}

// P6.13, P6.14: by their words; with all samples moved the answer is the same; Stale counts for nothing.
func TestTurnByWords(t *testing.T) {
	r := someRand()
	for _, l := range lists() {
		ss := sampled(r, l)
		for _, period := range []int64{1, 8000, 60000, api.MaxDur, anyPeriod(r), anyPeriod(r)} {
			re, im := wordsTurn(ss, period)
			checkTurn(t, ss, period, re, im)
			beat := wordsBeat(ss, period)
			check(t, calc.Beat(ss, period), beat, "Beat", ss, period)
			later := moved(ss, int64(r.Uint64()))
			checkTurn(t, later, period, re, im)
			check(t, calc.Beat(later, period), beat, "Beat", later, period)
		}
	}
}

// P6.14: the chapter's examples, and the ends.
func TestBeatExamples(t *testing.T) {
	swing := points(0, 1, 4000, -1, 8000, 1, 12000, -1)
	check(t, calc.Beat(swing, 8000), 1, "Beat", swing, 8000)
	check(t, calc.Beat(swing, 16000), 0, "Beat", swing, 16000)
	check(t, calc.Beat(nil, 8000), nan, "Beat of none", 8000)
	check(t, calc.Beat([]api.Sample{}, 8000), nan, "Beat of none", 8000)
	check(t, calc.Beat(swing, 0), nan, "Beat", swing, 0)
	check(t, calc.Beat(points(0, 3, 2, 4), 8), 2.5, "Beat", 8)
	check(t, calc.Beat(points(0, -3, 2, 4), 8), 2.5, "Beat", 8)
	check(t, calc.Beat(points(0, -5), 8), 5, "Beat", 8)
	check(t, calc.Beat(points(0, minus), 8), 0, "Beat", 8)
	check(t, calc.Beat(points(0, inf), 8), nan, "Beat", 8)
	check(t, calc.Beat(points(0, 0, 1, inf), 8), inf, "Beat", 8)
	check(t, calc.Beat(points(0, nan), 8), nan, "Beat", 8)
	check(t, calc.Beat(points(0, 1e200), 8), inf, "Beat", 8)
	check(t, calc.Beat(points(0, least), 8), 0, "Beat", 8)
}

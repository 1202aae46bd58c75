package over

import (
	"math"

	"weir/api"
	"weir/calc"
	"weir/num"
)

const millisOfSecond = 1000

// values: the points' values, as a new list.
func values(ps []api.Sample) []float64 {
	out := make([]float64, len(ps))
	for i, p := range ps {
		out[i] = p.V
	}
	return out
}

// highest: the greatest value; a NaN only where there is nothing else.
func highest(ps []api.Sample) float64 {
	m := ps[0].V
	for _, p := range ps[1:] {
		if p.V > m || math.IsNaN(m) {
			m = p.V
		}
	}
	return m
}

// lowest: the least value; a NaN only where there is nothing else.
func lowest(ps []api.Sample) float64 {
	m := ps[0].V
	for _, p := range ps[1:] {
		if p.V < m || math.IsNaN(m) {
			m = p.V
		}
	}
	return m
}

// medianDistance: the median of how far the numbers are from their median. It writes over the list.
func medianDistance(l []float64) float64 {
	const middle = 0.5
	m := calc.Quantile(middle, l)
	for i, v := range l {
		l[i] = math.Abs(v - m)
	}
	return calc.Quantile(middle, l)
}

// countSteps: of how many points behind the first one the question holds, put to the value ahead and their own.
func countSteps(ps []api.Sample, asked func(was, now float64) bool) float64 {
	n := 0
	for i := 1; i < len(ps); i++ {
		if asked(ps[i-1].V, ps[i].V) {
			n++
		}
	}
	return float64(n)
}

// isChange: from a NaN to a NaN nothing changes, though they aren't equal.
func isChange(was, now float64) bool {
	return now != was && !(math.IsNaN(was) && math.IsNaN(now))
}

// isReset: a counter never falls: one that is below what it was has begun anew.
func isReset(was, now float64) bool {
	return now < was
}

// slope: that of the line through the points, by the second. It is laid at the first point, so that the window's ends don't show in how it is rounded.
func slope(ps []api.Sample) float64 {
	s, _ := calc.Line(ps, ps[0].T)
	return s
}

// predicted: where the line through the points will be, so many seconds from now.
func predicted(w api.Window, seconds float64) float64 {
	s, value := calc.Line(w.Points, w.Now)
	return value + float64(s*seconds)
}

// beat: how strongly the points swing with a period of so many seconds. One that isn't to be had as whole milliseconds is 0, which no swing has.
func beat(ps []api.Sample, seconds float64) float64 {
	period, _ := num.ToInt(float64(seconds * millisOfSecond))
	return calc.Beat(ps, period)
}

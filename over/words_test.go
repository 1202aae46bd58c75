package over_test

import (
	"math"
	"math/big"
	"slices"

	"weir/api"
	"weir/calc"
)

// The chapter's words, written down a second time and in another way, to hold the package against: each operation is reckoned with numbers without an end and then rounded, by itself. What the chapter leaves to layer 6 is left to it here too.

// asked: how many numbers a function takes beside the window, and how many points it asks for.
type asked struct{ scalars, least int }

// names: the chapter's table, and layer 14's of the range functions.
func names() map[string]asked {
	return map[string]asked{
		"avg_over_time": {0, 1}, "beat_over_time": {1, 1}, "changes": {0, 1}, "count_over_time": {0, 1}, "delta": {0, 2}, "deriv": {0, 2},
		"double_exponential_smoothing": {2, 2}, "first_over_time": {0, 1}, "idelta": {0, 2}, "increase": {0, 2}, "irate": {0, 2}, "last_over_time": {0, 1},
		"mad_over_time": {0, 1}, "max_over_time": {0, 1}, "min_over_time": {0, 1}, "predict_linear": {1, 2}, "present_over_time": {0, 1}, "quantile_over_time": {1, 1},
		"rate": {0, 2}, "resets": {0, 1}, "stddev_over_time": {0, 1}, "stdvar_over_time": {0, 1}, "sum_over_time": {0, 1},
	}
}

func finite(v float64) bool {
	return !math.IsNaN(v) && !math.IsInf(v, 0)
}

func rat(v float64) *big.Rat {
	return new(big.Rat).SetFloat64(v)
}

// nearest: the float nearest to an exact number other than 0.
func nearest(exact *big.Rat) float64 {
	v, _ := exact.Float64()
	return v
}

// add, sub, mul, div: one operation, rounded by itself. Where there is no exact number (or it is 0, of which the sign is wanted), the machine's own operation answers.
func add(a, b float64) float64 {
	if !finite(a) || !finite(b) || a == -b {
		return a + b
	}
	return nearest(new(big.Rat).Add(rat(a), rat(b)))
}

func sub(a, b float64) float64 {
	return add(a, -b)
}

func mul(a, b float64) float64 {
	if !finite(a) || !finite(b) || a == 0 || b == 0 {
		return a * b
	}
	return nearest(new(big.Rat).Mul(rat(a), rat(b)))
}

func div(a, b float64) float64 {
	if !finite(a) || !finite(b) || a == 0 || b == 0 {
		return a / b
	}
	return nearest(new(big.Rat).Quo(rat(a), rat(b)))
}

// wordsSound: the section Types.
func wordsSound(w api.Window) bool {
	const bound = 9007199254740992
	for _, t := range []int64{w.From, w.To, w.Now} {
		if t < -bound || t > bound {
			return false
		}
	}
	if w.From > w.To {
		return false
	}
	for i, p := range w.Points {
		behind := i == 0 || w.Points[i-1].T < p.T
		if p.Stale || !behind || !(w.From < p.T && p.T <= w.To) {
			return false
		}
	}
	return true
}

// listed: L.
func listed(w api.Window) []float64 {
	var l []float64
	for _, p := range w.Points {
		l = append(l, p.V)
	}
	return l
}

// wordsSeconds: whole milliseconds in seconds.
func wordsSeconds(to, from int64) float64 {
	return div(float64(to-from), 1000)
}

// wordsBest: the first value that isn't a NaN and that no other one beats; NaN, if there is none.
func wordsBest(l []float64, beats func(a, b float64) bool) float64 {
	for _, v := range l {
		if v == v && !slices.ContainsFunc(l, func(other float64) bool { return beats(other, v) }) {
			return v
		}
	}
	return nan
}

func wordsMad(l []float64) float64 {
	m := calc.Quantile(0.5, l)
	var far []float64
	for _, v := range l {
		d := sub(v, m)
		if d < 0 {
			d = -d
		}
		far = append(far, add(d, 0)) // no nought below 0
	}
	return calc.Quantile(0.5, far)
}

// wordsPairs: of how many pairs of neighbours it holds.
func wordsPairs(l []float64, holds func(a, b float64) bool) float64 {
	n := 0.0
	for len(l) > 1 {
		if holds(l[0], l[1]) {
			n++
		}
		l = l[1:]
	}
	return n
}

// wordsPeriod: the whole part, by whole numbers without an end.
func wordsPeriod(arg float64) int64 {
	v := mul(arg, 1000)
	if !finite(v) {
		return 0
	}
	n, _ := new(big.Float).SetFloat64(v).Int(nil)
	if !n.IsInt64() {
		return 0
	}
	return n.Int64()
}

// wordsGrowth: step 1 of Extrapolate.
func wordsGrowth(l []float64, counter bool) float64 {
	g := sub(l[len(l)-1], l[0])
	for i := range l {
		if counter && i > 0 && l[i] < l[i-1] {
			g = add(g, l[i-1])
		}
	}
	return g
}

// wordsExtrapolate: the steps of Extrapolate.
func wordsExtrapolate(w api.Window, counter, perSecond bool) (float64, bool) {
	n := len(w.Points)
	if !wordsSound(w) || n < 2 {
		return 0, false
	}
	l := listed(w)
	g := wordsGrowth(l, counter)
	a, b, s := wordsSeconds(w.Points[0].T, w.From), wordsSeconds(w.To, w.Points[n-1].T), wordsSeconds(w.Points[n-1].T, w.Points[0].T)
	m := div(s, float64(n-1))
	h := mul(m, 1.1)
	if a >= h {
		a = div(m, 2)
	}
	if counter && g > 0 && l[0] >= 0 {
		if z := mul(s, div(l[0], g)); z < a {
			a = z
		}
	}
	if b >= h {
		b = div(m, 2)
	}
	f := div(add(add(s, a), b), s)
	if perSecond {
		f = div(f, wordsSeconds(w.To, w.From))
	}
	return mul(g, f), true
}

// wordsInstant: Instant.
func wordsInstant(w api.Window, counter bool) (float64, bool) {
	n := len(w.Points)
	if !wordsSound(w) || n < 2 {
		return 0, false
	}
	p, q := w.Points[n-2], w.Points[n-1]
	switch {
	case !counter:
		return sub(q.V, p.V), true
	case q.V < p.V:
		return div(q.V, wordsSeconds(q.T, p.T)), true
	}
	return div(sub(q.V, p.V), wordsSeconds(q.T, p.T)), true
}

// wordsCall: Call.
func wordsCall(name string, w api.Window, args []float64) (float64, bool) {
	a, known := names()[name]
	if !known || len(args) != a.scalars || !wordsSound(w) || len(w.Points) < a.least {
		return 0, false
	}
	switch name {
	case "rate":
		return wordsExtrapolate(w, true, true)
	case "increase":
		return wordsExtrapolate(w, true, false)
	case "delta":
		return wordsExtrapolate(w, false, false)
	case "irate":
		return wordsInstant(w, true)
	case "idelta":
		return wordsInstant(w, false)
	}
	return wordsTable(name, w, args), true
}

// wordsTable: the rows of the table that Extrapolate and Instant don't answer.
func wordsTable(name string, w api.Window, args []float64) float64 {
	l := listed(w)
	switch name {
	case "count_over_time":
		return float64(len(l))
	case "present_over_time":
		return 1
	case "first_over_time":
		return l[0]
	case "last_over_time":
		return l[len(l)-1]
	case "sum_over_time":
		return calc.Sum(l)
	case "avg_over_time":
		return calc.Mean(l)
	case "stddev_over_time":
		return calc.Spread(l)
	case "stdvar_over_time":
		return calc.Variance(l)
	case "max_over_time":
		return wordsBest(l, func(a, b float64) bool { return a > b })
	case "min_over_time":
		return wordsBest(l, func(a, b float64) bool { return a < b })
	case "quantile_over_time":
		return calc.Quantile(args[0], l)
	case "mad_over_time":
		return wordsMad(l)
	case "changes":
		return wordsPairs(l, func(a, b float64) bool { return !(a == b || a != a && b != b) })
	case "resets":
		return wordsPairs(l, func(a, b float64) bool { return b < a })
	case "deriv":
		slope, _ := calc.Line(w.Points, w.Points[0].T)
		return slope
	case "predict_linear":
		slope, value := calc.Line(w.Points, w.Now)
		return add(value, mul(slope, args[0]))
	case "double_exponential_smoothing":
		return calc.Smooth(l, args[0], args[1])
	}
	return calc.Beat(w.Points, wordsPeriod(args[0]))
}

package calc

import (
	"math"
	"slices"

	"weir/num"
)

// Sum: the sum of a list. Beside it goes a second sum, of what the first one loses by rounding.
func Sum(l []float64) float64 {
	var s, c float64
	for _, v := range l {
		t := s + v
		switch {
		case math.IsInf(t, 0): // what was lost so far would make a NaN of it
			c = 0
		case math.Abs(s) >= math.Abs(v):
			c += (s - t) + v
		default:
			c += (v - t) + s
		}
		s = t
	}
	return s + c
}

// Mean: the mean of a list; NaN of none.
func Mean(l []float64) float64 {
	if len(l) == 0 {
		return math.NaN()
	}
	n := float64(len(l))
	sum := Sum(l)
	if math.IsInf(sum, 0) && !slices.ContainsFunc(l, isInfinite) {
		return Sum(parted(l, n))
	}
	return sum / n
}

func isInfinite(v float64) bool {
	return math.IsInf(v, 0)
}

// parted: each number of a list divided by n.
func parted(l []float64, n float64) []float64 {
	out := make([]float64, len(l))
	for i, v := range l {
		out[i] = v / n
	}
	return out
}

// Variance: the mean of the squares of how far a list's numbers are from their mean; NaN of none.
func Variance(l []float64) float64 {
	if len(l) == 0 {
		return math.NaN()
	}
	m := Mean(l)
	squares := make([]float64, len(l))
	for i, v := range l {
		d := v - m
		squares[i] = float64(d * d)
	}
	return Sum(squares) / float64(len(l))
}

// Spread: the square root of the variance.
func Spread(l []float64) float64 {
	return math.Sqrt(Variance(l))
}

// Quantile: the q-quantile of a list.
func Quantile(q float64, l []float64) float64 {
	if len(l) == 0 {
		return math.NaN()
	}
	if !isPart(q) {
		return beyondParts(q)
	}
	sorted := slices.Clone(l)
	slices.SortStableFunc(sorted, num.Order)
	last := len(sorted) - 1
	rank := float64(q * float64(last))
	floor := math.Floor(rank)
	w := rank - floor
	a := int(floor)
	if w == 0 {
		return sorted[a]
	}
	b := min(a+1, last)
	return float64(sorted[a]*(1-w)) + float64(sorted[b]*w)
}

// isPart: is q from 0 to 1?
func isPart(q float64) bool {
	return q >= 0 && q <= 1
}

// beyondParts: every quantile for a q that is no part.
func beyondParts(q float64) float64 {
	switch {
	case q < 0:
		return math.Inf(-1)
	case q > 1:
		return math.Inf(1)
	}
	return math.NaN()
}

// Smooth: double exponential smoothing of a list, with sf for its level and tf for its trend.
func Smooth(l []float64, sf, tf float64) float64 {
	if len(l) < 2 || !isInside(sf) || !isInside(tf) {
		return math.NaN()
	}
	before, s, b := 0.0, l[0], l[1]-l[0]
	for i := 1; i < len(l); i++ {
		if i > 1 {
			b = float64(tf*(s-before)) + float64((1-tf)*b)
		}
		before, s = s, float64(sf*l[i])+float64((1-sf)*(s+b))
	}
	return s
}

// isInside: is v above 0 and below 1?
func isInside(v float64) bool {
	return v > 0 && v < 1
}

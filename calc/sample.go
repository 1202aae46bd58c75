package calc

import (
	"math"

	"weir/api"
	"weir/num"
)

const (
	eighths        = 8
	millisOfSecond = 1000
)

// Line: slope (by the second) and value at the time at of the line of least squares.
func Line(ss []api.Sample, at int64) (slope, value float64) {
	switch {
	case len(ss) == 0:
		return math.NaN(), math.NaN()
	case !isLevel(ss):
		return leastSquares(ss, at)
	case math.IsInf(ss[0].V, 0):
		return math.NaN(), math.NaN()
	}
	return 0, ss[0].V
}

// isLevel: does every value equal the first one? The first isn't asked itself: it may be a NaN.
func isLevel(ss []api.Sample) bool {
	for _, s := range ss[1:] {
		if s.V != ss[0].V {
			return false
		}
	}
	return true
}

// leastSquares: Line of samples that aren't level.
func leastSquares(ss []api.Sample, at int64) (slope, value float64) {
	var xs, ys, xys, xxs []float64
	for _, s := range ss {
		x, y := float64(s.T-at)/millisOfSecond, s.V
		xs, ys = append(xs, x), append(ys, y)
		xys, xxs = append(xys, float64(x*y)), append(xxs, float64(x*x))
	}
	n := float64(len(ss))
	x, y := Sum(xs), Sum(ys)
	c := Sum(xys) - float64(x*y)/n
	d := Sum(xxs) - float64(x*x)/n
	slope = c / d
	return slope, y/n - float64(slope*x)/n
}

// Turn: the sum of the samples, each turned by the eighth of the period in which it stands.
func Turn(ss []api.Sample, period int64) complex128 {
	if !isPeriod(period) {
		return 0
	}
	ways := directions()
	var sum complex128
	for _, s := range ss {
		way := ways[eighth(s.T-ss[0].T, period)]
		// No product of complex numbers: it would add products with 0, which are NaN for an infinite V.
		sum += complex(float64(s.V*real(way)), float64(s.V*imag(way)))
	}
	return sum
}

func isPeriod(period int64) bool {
	return period >= 1 && period <= api.MaxDur
}

// directions: where the eighths of a turn point to.
func directions() [eighths]complex128 {
	h := num.FromBits(half)
	return [eighths]complex128{
		complex(1, 0), complex(h, h), complex(0, 1), complex(-h, h),
		complex(-1, 0), complex(-h, -h), complex(0, -1), complex(h, -h),
	}
}

// eighth: in which eighth of the period the time d stands, counted from 0.
func eighth(d, period int64) int64 {
	r := d % period
	if r < 0 {
		r += period
	}
	return eighths * r / period
}

// Beat: how strongly the samples swing with the period.
func Beat(ss []api.Sample, period int64) float64 {
	if len(ss) == 0 || !isPeriod(period) {
		return math.NaN()
	}
	turn := Turn(ss, period)
	re, im := real(turn), imag(turn)
	return math.Sqrt(float64(re*re)+float64(im*im)) / float64(len(ss))
}

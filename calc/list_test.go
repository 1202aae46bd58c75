package calc_test

import (
	"math"
	"testing"

	"weir/calc"
)

// P6.7: the chapter's examples; empty lists, lists that cancel out, sums that become infinite on the way.
func TestSumExamples(t *testing.T) {
	for _, c := range []struct {
		l    []float64
		want float64
	}{
		{nil, 0}, {[]float64{}, 0}, {[]float64{minus}, 0}, {[]float64{minus, minus}, 0}, {[]float64{5}, 5},
		{[]float64{1e100, 1, -1e100}, 1}, {[]float64{1, 1e100, -1e100}, 1}, {[]float64{1, 1e100, 1, -1e100}, 2}, {[]float64{-1e100, 1e100, 3}, 3}, {[]float64{1, -1}, 0}, {[]float64{-1, 1}, 0},
		{[]float64{0.1, 0.2, 0.3, -0.3, -0.2, -0.1}, 0}, {[]float64{1 << 53, 1, 1}, 1<<53 + 2}, {[]float64{least, -least}, 0}, {[]float64{least, least}, 2 * least},
		{[]float64{inf, 1}, inf}, {[]float64{1, inf}, inf}, {[]float64{inf, -inf}, nan}, {[]float64{inf, inf}, inf}, {[]float64{-inf, -1}, -inf}, {[]float64{1, nan}, nan}, {[]float64{nan, 1}, nan}, {[]float64{nan, inf}, nan}, {[]float64{inf, nan}, nan},
		{[]float64{greatest, greatest}, inf}, {[]float64{greatest, greatest, -greatest}, inf}, {[]float64{greatest, greatest, -greatest, -greatest}, inf}, {[]float64{-greatest, -greatest}, -inf}, {[]float64{1e100, 1, greatest, greatest}, inf}, {[]float64{greatest, greatest, -inf}, nan}, {[]float64{greatest, -greatest}, 0},
	} {
		check(t, calc.Sum(c.l), c.want, "Sum", c.l)
	}
}

// P6.8, P6.9: the chapter's examples; a Sum that is infinite though no element is.
func TestMeanExamples(t *testing.T) {
	for _, c := range []struct {
		l              []float64
		mean, variance float64
	}{
		{nil, nan, nan}, {[]float64{}, nan, nan}, {[]float64{minus}, 0, 0}, {[]float64{7}, 7, 0}, {[]float64{1, 2, 6}, 3, 14.0 / 3},
		{[]float64{2, 4, 4, 4, 5, 5, 7, 9}, 5, 4}, {[]float64{greatest, greatest}, greatest, 0}, {[]float64{-greatest, -greatest}, -greatest, 0},
		{[]float64{greatest, greatest, -greatest, -greatest}, 0, inf}, {[]float64{greatest}, greatest, 0}, {[]float64{1e200, -1e200}, 0, inf},
		{[]float64{inf, 1}, inf, nan}, {[]float64{-inf, 1}, -inf, nan}, {[]float64{inf, -inf}, nan, nan}, {[]float64{nan, 1}, nan, nan}, {[]float64{greatest, greatest, inf}, inf, nan}, {[]float64{greatest, greatest, nan}, nan, nan}, {[]float64{greatest, greatest, -inf}, nan, nan},
		{[]float64{least, least}, least, 0}, {[]float64{least, 0}, 0, 0},
	} {
		check(t, calc.Mean(c.l), c.mean, "Mean", c.l)
		check(t, calc.Variance(c.l), c.variance, "Variance", c.l)
		check(t, calc.Spread(c.l), math.Sqrt(c.variance), "Spread", c.l)
	}
}

// P6.7 to P6.9: by their words, to the bit.
func TestListsByWords(t *testing.T) {
	for _, l := range lists() {
		check(t, calc.Sum(l), wordsSum(l), "Sum", l)
		check(t, calc.Mean(l), wordsMean(l), "Mean", l)
		check(t, calc.Variance(l), wordsVariance(l), "Variance", l)
		check(t, calc.Spread(l), math.Sqrt(wordsVariance(l)), "Spread", l)
	}
}

// P6.8: means of lists of great numbers, whose Sum is infinite.
func TestMeanOfGreatNumbers(t *testing.T) {
	r := someRand()
	for n := 2; n < 40; n++ {
		var l []float64
		for range n {
			l = append(l, greatest*(1-r.Float64()/4))
		}
		check(t, calc.Mean(l), wordsMean(l), "Mean", l)
		if v := calc.Mean(l); !finite(v) {
			t.Errorf("Mean of %d great numbers = %v", n, v)
		}
	}
}

// P6.10: the chapter's examples; one number; +0, -0 and NaN in the list; q 0, 1 and outside.
func TestQuantileExamples(t *testing.T) {
	four := []float64{4, 1, 3, 2}
	for _, c := range []struct {
		q    float64
		l    []float64
		want float64
	}{
		{0.5, four, 2.5}, {0, four, 1}, {minus, four, 1}, {1, four, 4}, {0.25, four, 1.75}, {1.0 / 3, four, 2}, {2.0 / 3, four, 3}, {least, four, 1}, {math.Nextafter(1, 0), four, 3.9999999999999996},
		{0, []float64{1, nan}, nan}, {1, []float64{1, nan}, 1}, {0.5, []float64{1, nan}, nan}, {0.5, []float64{nan, 1, 2}, 1}, {0.75, []float64{nan, 1, 2}, 1.5},
		{0, []float64{0, minus}, 0}, {0, []float64{minus, 0}, minus}, {1, []float64{0, minus}, minus}, {1, []float64{minus, 0}, 0}, {1, []float64{0, minus, -1}, minus}, {0.5, []float64{1, 0, minus}, minus}, {0.5, []float64{minus, 1, 0}, 0}, {0.5, []float64{minus, minus}, minus},
		{0, []float64{5}, 5}, {0.3, []float64{5}, 5}, {1, []float64{5}, 5}, {0.3, []float64{minus}, minus}, {0.3, []float64{nan}, nan}, {0.3, []float64{inf}, inf},
		{-1, []float64{1}, -inf}, {-least, four, -inf}, {-inf, four, -inf}, {2, []float64{1}, inf}, {math.Nextafter(1, 2), four, inf}, {inf, four, inf}, {nan, four, nan}, {2, nil, nan}, {-1, nil, nan}, {0.5, nil, nan}, {nan, nil, nan}, {0.5, []float64{}, nan},
		{0.5, []float64{1, inf}, inf}, {0.5, []float64{-inf, inf}, nan}, {0, []float64{inf, -inf}, -inf}, {0.5, []float64{greatest, -greatest}, 0}, {0.5, []float64{greatest, greatest}, greatest}, {0.5, []float64{least, 0}, 0},
	} {
		check(t, calc.Quantile(c.q, c.l), c.want, "Quantile", c.q, c.l)
	}
}

// P6.10: by its words.
func TestQuantileByWords(t *testing.T) {
	r := someRand()
	for _, l := range lists() {
		qs := []float64{0, 1, 0.5, 0.25, 0.9, 0.99, least, math.Nextafter(1, 0), 1.0 / 3, r.Float64(), r.Float64(), -1, 2, nan}
		if len(l) > 1 { // a rank that is whole or next to it
			qs = append(qs, beside(float64(r.IntN(len(l)))/float64(len(l)-1))...)
		}
		for _, q := range qs {
			check(t, calc.Quantile(q, l), wordsQuantile(q, l), "Quantile", q, l)
		}
	}
}

// P6.12: the chapter's example; fewer than two numbers; sf and tf at 0, at 1, outside, NaN.
func TestSmoothExamples(t *testing.T) {
	three := []float64{1, 2, 4}
	for _, c := range []struct {
		l            []float64
		sf, tf, want float64
	}{
		{three, 0.5, 0.5, 3.5}, {[]float64{1, 2}, 0.5, 0.5, 2}, {[]float64{1, 2}, 0.25, 0.5, 2}, {[]float64{1, 2, 3, 4, 5}, 0.5, 0.25, 5}, {[]float64{1, 2, 3, 4, 5}, 0.3, 0.7, 4.999999999999998}, {[]float64{3, 3, 3}, 0.5, 0.5, 3}, {[]float64{minus, minus}, 0.5, 0.5, 0},
		{nil, 0.5, 0.5, nan}, {[]float64{}, 0.5, 0.5, nan}, {[]float64{1}, 0.5, 0.5, nan},
		{three, 0, 0.5, nan}, {three, minus, 0.5, nan}, {three, 1, 0.5, nan}, {three, nan, 0.5, nan}, {three, -0.5, 0.5, nan}, {three, 1.5, 0.5, nan}, {three, inf, 0.5, nan}, {three, -inf, 0.5, nan},
		{three, 0.5, 0, nan}, {three, 0.5, minus, nan}, {three, 0.5, 1, nan}, {three, 0.5, nan, nan}, {three, 0.5, -0.5, nan}, {three, 0.5, 1.5, nan}, {three, 0.5, inf, nan}, {three, 0.5, -inf, nan},
		{[]float64{nan, 1, 2}, 0.5, 0.5, nan}, {[]float64{1, inf}, 0.5, 0.5, inf}, {[]float64{inf, 1}, 0.5, 0.5, nan},
	} {
		check(t, calc.Smooth(c.l, c.sf, c.tf), c.want, "Smooth", c.l, c.sf, c.tf)
	}
}

// P6.12: by its words.
func TestSmoothByWords(t *testing.T) {
	r := someRand()
	inside := []float64{least, 1e-300, 0.1, 0.5, 0.9, math.Nextafter(1, 0)}
	for _, l := range lists() {
		for range 6 {
			for _, c := range [][2]float64{{r.Float64(), r.Float64()}, {inside[r.IntN(6)], inside[r.IntN(6)]}, {inside[r.IntN(6)], r.Float64()}} {
				check(t, calc.Smooth(l, c[0], c[1]), wordsSmooth(l, c[0], c[1]), "Smooth", l, c[0], c[1])
			}
		}
	}
}

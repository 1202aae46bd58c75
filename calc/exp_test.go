package calc_test

import (
	"math"
	"testing"

	"weir/calc"
)

// beside: a number and some of its neighbours on both sides.
func beside(v float64) []float64 {
	out := []float64{v}
	down, up := v, v
	for range 5 {
		down, up = math.Nextafter(down, -inf), math.Nextafter(up, inf)
		out = append(out, down, up)
	}
	return out
}

// P6.1: the chapter's examples, and the ends by themselves.
func TestExpExamples(t *testing.T) {
	for _, c := range [][2]float64{
		{0, 1}, {minus, 1}, {least, 1}, {-least, 1}, {1e-300, 1}, {710, inf}, {-746, 0}, {nan, nan}, {inf, inf}, {-inf, 0}, {greatest, inf}, {-greatest, 0},
		{math.Nextafter(expTop, inf), inf}, {math.Nextafter(expLow, -inf), 0}, {expLow, 0}, {math.Nextafter(expLow, 0), least}, {-745, least}, {-744, 2 * least},
	} {
		check(t, calc.Exp(c[0]), c[1], "Exp", c[0])
	}
	if v := calc.Exp(expTop); !finite(v) || v < 1.797e308 {
		t.Errorf("Exp(%v) = %v is not near the greatest float", expTop, v)
	}
}

// P6.1: answers to the bit, reckoned beforehand by another program.
func TestExpBits(t *testing.T) {
	for x, want := range expBits() {
		check(t, calc.Exp(x), math.Float64frombits(want), "Exp", x)
	}
}

// P6.1: Exp by its words: near both ends, where its answer is subnormal, near the places where k steps on, and everywhere.
func TestExpByWords(t *testing.T) {
	xs := special()
	for _, v := range []float64{expTop, expLow, 0, 1, -1, -708.3964185322641, -708.39, -709, -720, -744, -745} {
		xs = append(xs, beside(v)...)
	}
	for k := -1076.0; k <= 1025; k += 7 {
		xs = append(xs, beside((k - 0.5) / invLn2)[:5]...)
		xs = append(xs, k/invLn2)
	}
	r := someRand()
	for range 1500 {
		xs = append(xs, r.Float64()*1456-746, r.NormFloat64(), -708-r.Float64()*38, anyFloat(r))
	}
	for _, x := range xs {
		check(t, calc.Exp(x), wordsExp(x), "Exp", x)
	}
}

// P6.1: it is e to the power x.
func TestExpIsNear(t *testing.T) {
	r := someRand()
	for range 20000 {
		x := r.Float64()*1400 - 700
		if got, want := calc.Exp(x), math.Exp(x); math.Abs(got-want) > want*1e-15 {
			t.Errorf("Exp(%v) = %v is far from %v", x, got, want)
		}
	}
}

package calc_test

import (
	"math"
	"testing"

	"weir/calc"
)

// checkPow: Pow by its words, and the case that was.
func checkPow(t *testing.T, x, y float64) int {
	t.Helper()
	want, which := wordsPow(x, y)
	check(t, calc.Pow(x, y), want, "Pow", x, y)
	return which
}

// P6.4: the chapter's examples, and one or more for each way through the eight cases.
func TestPowExamples(t *testing.T) {
	for _, c := range [][3]float64{
		{2, 10, 1024}, {2, -1, 0.5}, {-2, 3, -8}, {-2, 2, 4}, {2, 1024, inf}, {2, -1024, 0}, {2, 1023, 0x1p1023}, {2, -1023, 0x1p-1023}, {0.5, 1024, 0x1p-1024}, {0.5, -1024, inf}, {-1, 1023, -1}, {-1, -1023, -1}, {-1, 1024, 1}, {10, 1, 10}, {10, -1, 0.1}, {least, 1, least}, {least, 2, 0}, {-least, 3, minus}, {-least, -3, -inf},
		{nan, 0, 1}, {nan, minus, 1}, {inf, 0, 1}, {0, 0, 1}, {minus, minus, 1}, {-5, 0, 1}, {1, nan, 1}, {1, inf, 1}, {1, -inf, 1}, {1, 1e300, 1},
		{nan, 1, nan}, {2, nan, nan}, {nan, nan, nan}, {-1, nan, nan}, {0, nan, nan}, {inf, nan, nan}, {nan, inf, nan},
		{-1, inf, 1}, {-1, -inf, 1}, {2, inf, inf}, {-2, inf, inf}, {2, -inf, 0}, {-2, -inf, 0}, {0.5, inf, 0}, {-0.5, inf, 0}, {0.5, -inf, inf}, {-0.5, -inf, inf}, {0, inf, 0}, {0, -inf, inf}, {minus, inf, 0}, {minus, -inf, inf}, {inf, inf, inf}, {inf, -inf, 0}, {-inf, inf, inf}, {-inf, -inf, 0},
		{0, 3, 0}, {minus, 3, minus}, {0, -3, inf}, {minus, -3, -inf}, {0, 2, 0}, {minus, 2, 0}, {0, -2, inf}, {minus, -2, inf}, {minus, 0.5, 0}, {minus, -0.5, inf}, {minus, 1<<53 - 1, minus}, {minus, 1 << 53, 0}, {minus, -(1<<53 - 1), -inf}, {minus, -(1 << 53), inf}, {minus, greatest, 0}, {minus, -greatest, inf}, {minus, 1<<52 + 1, minus}, {minus, 1<<51 + 0.5, 0},
		{inf, 0.5, inf}, {inf, -0.5, 0}, {inf, 3, inf}, {inf, -3, 0}, {-inf, 3, -inf}, {-inf, -3, minus}, {-inf, 2, inf}, {-inf, -2, 0}, {-inf, 0.5, inf}, {-inf, -0.5, 0}, {-inf, 1<<53 - 1, -inf}, {-inf, 1 << 53, inf}, {-inf, -(1<<53 - 1), minus}, {-inf, -greatest, 0},
		{-8, 0.5, nan}, {-8, 1.0 / 3, nan}, {-1, 1024.5, nan}, {-least, -0.5, nan}, {-1, 1<<52 - 0.5, nan},
		{-1, 1025, -1}, {-1, 1026, 1}, {-1, -1025, -1}, {-1, 1<<53 - 1, -1}, {-1, 1 << 53, 1}, {-1, 1<<53 + 2, 1}, {-1, greatest, 1}, {2, 1025, inf}, {2, -1e6, 0}, {-2, 1025, -inf}, {-2, 1026, inf}, {-2, -2001, minus}, {-2, -2002, 0}, {0.5, 1e9, 0}, {0.5, -1e9, inf}, {greatest, 1.5, inf}, {greatest, -1.5, 0}, {-greatest, 1025, -inf},
	} {
		check(t, calc.Pow(c[0], c[1]), c[2], "Pow", c[0], c[1])
	}
}

// P6.4: each special number to the power of each, by the chapter's words; and where the answer is one of the ends, it is the library's too.
func TestPowOfSpecialNumbers(t *testing.T) {
	var seen [9]int
	ys := append(special(), 1023, 1024, 1025, -1023, -1024, -1025, 1023.5, 1024.5, -1024.5)
	for _, x := range special() {
		for _, y := range ys {
			which := checkPow(t, x, y)
			seen[which]++
			if which <= 5 {
				check(t, calc.Pow(x, y), math.Pow(x, y), "Pow", x, y)
			}
		}
	}
	for which, n := range seen {
		if which > 0 && n == 0 {
			t.Errorf("case %d was never tried", which)
		}
	}
}

// P6.4, 6: the order of the products: by squaring, from the lowest bit of n on.
func TestPowBySquaring(t *testing.T) {
	r := someRand()
	for n := 1; n <= 1024; n++ {
		for range 2 {
			x := math.Exp2(r.Float64()*4 - 2)
			if n%3 == 0 {
				x = -math.Exp(r.NormFloat64() / float64(n) * 300)
			}
			checkPow(t, x, float64(n))
			checkPow(t, x, -float64(n))
		}
	}
	for _, x := range special() {
		for n := -40.0; n <= 40; n++ {
			checkPow(t, x, n)
		}
	}
}

// P6.4, 8: by logarithms: y beyond 1024 and next to it, y not whole.
func TestPowByLogarithms(t *testing.T) {
	r := someRand()
	var ys []float64
	for _, y := range []float64{1024, -1024, 1023, 0.5, 1, -1, 2} {
		ys = append(ys, beside(y)...)
	}
	for _, y := range append(ys, 1025, 1026, -1025, -1026, 1027, 1e4+1, -1e4-1, 1<<52+1, 1<<53-1, 1<<53, 1<<53+2) {
		for range 6 {
			x := 1 + r.NormFloat64()*1e-3
			checkPow(t, x, y)
			checkPow(t, -x, y)
			checkPow(t, math.Exp2(r.NormFloat64()*3), y)
		}
	}
	for range 1000 {
		checkPow(t, math.Exp2(r.NormFloat64()*10), r.NormFloat64()*20)
		checkPow(t, anyFloat(r), anyFloat(r))
		checkPow(t, -math.Exp2(r.NormFloat64()/1000), float64(r.IntN(40000)-20000))
		checkPow(t, math.Float64frombits(r.Uint64N(1<<52)), r.NormFloat64())
	}
}

// P6.4: answers to the bit, reckoned beforehand by another program.
func TestPowBits(t *testing.T) {
	for c, want := range powBits() {
		check(t, calc.Pow(c[0], c[1]), math.Float64frombits(want), "Pow", c[0], c[1])
	}
}

// P6.5: the chapter's examples, and the ends.
func TestModExamples(t *testing.T) {
	for _, c := range [][3]float64{
		{-5, 3, -2}, {5, -3, 2}, {5, 3, 2}, {-5, -3, -2}, {5.5, 2, 1.5}, {-6, 3, minus}, {6, 3, 0}, {6, -3, 0}, {-6, -3, minus}, {0, 3, 0}, {minus, 3, minus}, {minus, -3, minus}, {0, -3, 0},
		{5, 0, nan}, {5, minus, nan}, {0, 0, nan}, {inf, 2, nan}, {-inf, 2, nan}, {inf, inf, nan}, {nan, 2, nan}, {2, nan, nan}, {nan, inf, nan}, {inf, nan, nan}, {nan, 0, nan},
		{5, inf, 5}, {-5, inf, -5}, {5, -inf, 5}, {minus, inf, minus}, {0, -inf, 0}, {greatest, inf, greatest},
		{1 << 60, 3, 1}, {least, 1, least}, {-least, 1, -least}, {1, least, 0}, {-1, least, minus}, {greatest, least, 0}, {greatest, 3, 2}, {-greatest, 3, -2}, {least, greatest, least}, {greatest, greatest, 0}, {3 * least, 2 * least, least}, {0.3, 0.1, 0.09999999999999998},
	} {
		check(t, calc.Mod(c[0], c[1]), c[2], "Mod", c[0], c[1])
	}
}

// P6.5: exactly, by numbers without an end: of floats near one another and very far apart, of like sign and unlike.
func TestModByWords(t *testing.T) {
	for _, x := range special() {
		for _, y := range special() {
			check(t, calc.Mod(x, y), wordsMod(x, y), "Mod", x, y)
		}
	}
	r := someRand()
	for range 1500 {
		x, y := anyFloat(r), anyFloat(r)
		few := math.Ldexp(y, r.IntN(4)) * float64(r.IntN(9)-4)
		if math.IsInf(few, 0) {
			few = y
		}
		tiny := math.Float64frombits(r.Uint64N(1 << 52))
		for _, c := range [][2]float64{{x, y}, {y, x}, {few, y}, {math.Nextafter(few, x), y}, {x, tiny}, {tiny, x}, {float64(r.IntN(1000)), float64(r.IntN(30))}, {r.NormFloat64() * 100, r.NormFloat64()}} {
			check(t, calc.Mod(c[0], c[1]), wordsMod(c[0], c[1]), "Mod", c[0], c[1])
		}
	}
}

// P6.6: the chapter's examples, and what the operations give at the ends.
func TestRoundExamples(t *testing.T) {
	for _, c := range [][3]float64{
		{7, 5, 5}, {2.5, 1, 3}, {-2.5, 1, -2}, {7.5, 5, 10}, {-7.5, 5, -5}, {0, 1, 0}, {minus, 1, 0}, {0.4, 1, 0}, {-0.4, 1, 0}, {-0.6, 1, -1}, {7, -5, 5}, {7.5, -5, 5}, {8, -5, 10}, {0.49999999999999994, 1, 1}, {1234, 100, 1200}, {1.25, 0.5, 1.5},
		{1, 0, nan}, {0, 0, nan}, {-1, 0, nan}, {1, minus, nan}, {inf, 0, nan}, {1, inf, nan}, {1, -inf, nan}, {0, inf, nan}, {nan, 1, nan}, {1, nan, nan}, {inf, 1, inf}, {-inf, 1, -inf}, {inf, -1, inf}, {inf, inf, nan},
		{greatest, 1, greatest}, {-greatest, 1, -greatest}, {least, 1, 0}, {-least, 1, 0}, {1, least, nan}, {1, greatest, 0}, {greatest, 0.1, inf}, {1<<53 - 1, 1, 1 << 53},
	} {
		check(t, calc.Round(c[0], c[1]), c[2], "Round", c[0], c[1])
	}
}

// P6.6: by its words.
func TestRoundByWords(t *testing.T) {
	for _, x := range special() {
		for _, to := range special() {
			check(t, calc.Round(x, to), wordsRound(x, to), "Round", x, to)
		}
	}
	r := someRand()
	for range 2000 {
		for _, c := range [][2]float64{{anyFloat(r), anyFloat(r)}, {r.NormFloat64() * 100, r.Float64()}, {r.NormFloat64() * 1e6, -float64(1 + r.IntN(50))}, {float64(r.IntN(1000)) / 10, 0.1}} {
			check(t, calc.Round(c[0], c[1]), wordsRound(c[0], c[1]), "Round", c[0], c[1])
		}
	}
}

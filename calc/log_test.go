package calc_test

import (
	"math"
	"testing"

	"weir/calc"
)

// checkLogs: all three logarithms by their words.
func checkLogs(t *testing.T, x float64) {
	t.Helper()
	ln, log2, log10 := wordsLogs(x)
	check(t, calc.Ln(x), ln, "Ln", x)
	check(t, calc.Log2(x), log2, "Log2", x)
	check(t, calc.Log10(x), log10, "Log10", x)
}

// P6.3: the chapter's examples; what has no parts.
func TestLogExamples(t *testing.T) {
	check(t, calc.Ln(1), 0, "Ln", 1)
	check(t, calc.Log2(1), 0, "Log2", 1)
	check(t, calc.Log10(1), 0, "Log10", 1)
	check(t, calc.Log2(8), 3, "Log2", 8)
	check(t, calc.Log2(least), -1074, "Log2", least)
	for _, log := range []func(float64) float64{calc.Ln, calc.Log2, calc.Log10} {
		for _, c := range [][2]float64{{nan, nan}, {-1, nan}, {-least, nan}, {-greatest, nan}, {-inf, nan}, {0, -inf}, {minus, -inf}, {inf, inf}} {
			check(t, log(c[0]), c[1], "a logarithm", c[0])
		}
	}
}

// P6.2 and P6.3: of a power of two m is 1, and all that is left is e.
func TestLogOfPowersOfTwo(t *testing.T) {
	for e := -1074; e <= 1023; e++ {
		x := math.Ldexp(1, e)
		check(t, calc.Log2(x), float64(e), "Log2", x)
		check(t, calc.Ln(x), add(mul(float64(e), lnHi), mul(float64(e), lnLo)), "Ln", x)
	}
}

// P6.2: the edges of m: at Half and below twice Half the parts change over.
func TestLogAtTheEdgesOfParts(t *testing.T) {
	for _, e := range []int{-1074, -1073, -1050, -1023, -1022, -1021, -500, -1, 0, 1, 2, 3, 500, 1022, 1023} {
		for _, m := range []float64{half, 2 * half, 0.5, 1, 0.75, 1.25, 1.5} {
			for _, x := range beside(math.Ldexp(m, e)) {
				checkLogs(t, x)
			}
		}
	}
}

// P6.3: answers to the bit, reckoned beforehand by another program.
func TestLogBits(t *testing.T) {
	for x, want := range logBits() {
		check(t, calc.Ln(x), math.Float64frombits(want[0]), "Ln", x)
		check(t, calc.Log2(x), math.Float64frombits(want[1]), "Log2", x)
		check(t, calc.Log10(x), math.Float64frombits(want[2]), "Log10", x)
	}
}

// P6.2 and P6.3: by their words, everywhere, among subnormal floats and near 1.
func TestLogsByWords(t *testing.T) {
	xs := special()
	r := someRand()
	for range 1000 {
		xs = append(xs, anyFloat(r), math.Abs(anyFloat(r)), math.Float64frombits(r.Uint64N(1<<(1+r.IntN(52)))), r.Float64()*2, 0.5+r.Float64())
	}
	for _, x := range xs {
		checkLogs(t, x)
	}
}

// P6.3: they are the logarithms.
func TestLogsAreNear(t *testing.T) {
	r := someRand()
	for range 20000 {
		x := math.Abs(anyFloat(r))
		if x < 0x1p-1022 { // the library's logarithms are not to be trusted there on every machine
			continue
		}
		for _, c := range [][2]float64{{calc.Ln(x), math.Log(x)}, {calc.Log2(x), math.Log2(x)}, {calc.Log10(x), math.Log10(x)}} {
			if math.Abs(c[0]-c[1]) > 2e-15*math.Abs(c[1]) {
				t.Errorf("a logarithm of %v: %v is far from %v", x, c[0], c[1])
			}
		}
	}
}

package calc

import "math"

const (
	mostSquaring = 1024    // the greatest whole power that is taken by squaring
	allEven      = 1 << 53 // from here on every float is even
)

// Pow: x to the power y.
func Pow(x, y float64) float64 {
	switch {
	case y == 0 || x == 1:
		return 1
	case math.IsNaN(x) || math.IsNaN(y):
		return math.NaN()
	case math.IsInf(y, 0):
		return powEndless(x, y)
	case x == 0 || math.IsInf(x, 0):
		return powOfEnd(x, y)
	case isWhole(y) && math.Abs(y) <= mostSquaring:
		return powWhole(x, y)
	case x < 0 && !isWhole(y):
		return math.NaN()
	}
	v := Exp(float64(y * Ln(math.Abs(x))))
	if x < 0 && isOdd(y) {
		return -v
	}
	return v
}

// powEndless: Pow for an infinite y.
func powEndless(x, y float64) float64 {
	size := math.Abs(x)
	switch {
	case x == -1:
		return 1
	case size > 1 && y > 0 || size < 1 && y < 0:
		return math.Inf(1)
	}
	return 0
}

// powOfEnd: Pow for an x that is 0 or infinite. So is the answer, and it has the sign of x where y is odd.
func powOfEnd(x, y float64) float64 {
	size := 0.0
	if (x == 0) == (y < 0) {
		size = math.Inf(1)
	}
	if isOdd(y) {
		return math.Copysign(size, x)
	}
	return size
}

// powWhole: Pow for a whole y of a size that is taken by squaring.
func powWhole(x, y float64) float64 {
	a, r := x, 1.0
	for n := int(math.Abs(y)); n > 0; {
		if n%2 == 1 {
			r = float64(r * a)
		}
		n /= 2
		if n > 0 {
			a = float64(a * a)
		}
	}
	if y < 0 {
		return 1 / r
	}
	return r
}

func isWhole(v float64) bool {
	return v == math.Floor(v) && !math.IsInf(v, 0)
}

func isOdd(v float64) bool {
	return isWhole(v) && math.Abs(v) < allEven && int64(v)%2 != 0
}

// Mod: what is left of x when y is taken off as often as it goes, with the sign of x.
func Mod(x, y float64) float64 {
	return math.Mod(x, y)
}

// Round: the multiple of to that is nearest to x, of two the upper one.
func Round(x, to float64) float64 {
	v := 1 / to
	return math.Floor(float64(x*v)+0.5) / v
}

package num

import (
	"math"
	"math/big"
	"strconv"
	"strings"
)

// Show: the shortest plain decimal that reads back to v.
func Show(v float64) string {
	switch {
	case math.IsNaN(v):
		return "NaN"
	case math.IsInf(v, 1):
		return "+Inf"
	case math.IsInf(v, -1):
		return "-Inf"
	case math.Signbit(v):
		return "-" + showMagnitude(-v)
	}
	return showMagnitude(v)
}

// showMagnitude: the text of a finite number that isn't negative.
func showMagnitude(m float64) string {
	if m == 0 {
		return "0"
	}
	digits, exp, ok := fewDigits(m)
	if !ok {
		digits, exp = manyDigits(m)
	}
	for digits%10 == 0 {
		digits, exp = digits/10, exp+1
	}
	return plain(strconv.FormatUint(digits, 10), exp)
}

// plain: digits * 10^exp, without an exponent.
func plain(digits string, exp int) string {
	point := len(digits) + exp
	switch {
	case exp >= 0:
		return digits + strings.Repeat("0", exp)
	case point > 0:
		return digits[:point] + "." + digits[point:]
	}
	return "0." + strings.Repeat("0", -point) + digits
}

// fewDigits: the decimal digits * 10^exp of at most exactDigits digits that rounds to m, if there is one and m is of a common size. Only one such decimal rounds to m, so that it is the shortest, with noughts at its end or without.
func fewDigits(m float64) (digits uint64, exp int, ok bool) {
	const least, end = 1e14, 1e15 // the whole numbers of exactDigits digits
	for places, power := range powers() {
		if m*power < least {
			continue
		}
		near := math.Floor(float64(m*power) + 0.5) // the product isn't exact: what it gives is only tried
		if near < end && near/power == m {
			return uint64(near), -places, true
		}
		break
	}
	return 0, 0, false
}

// A gap is what digits are taken from, one by one: num/den is what is left of the number, in units of the last digit taken, and a decimal rounds to the number if it is no more than down/den below it or up/den above it (less than that, if the ends don't round to it).
type gap struct {
	num, den, down, up *big.Int
	ends               bool
}

// manyDigits: the shortest decimal digits * 10^exp that rounds to m, by exact arithmetic. M is finite and positive.
func manyDigits(m float64) (digits uint64, exp int) {
	g, exp := openGap(m)
	for {
		digits, exp = digits*10+g.next(), exp-1
		below, above := g.reaches()
		switch {
		case below && above:
			return g.nearer(digits), exp
		case below:
			return digits, exp
		case above:
			return digits + 1, exp
		}
	}
}

// openGap: the gap around m in units of 10^exp, which is the least power of ten above m.
func openGap(m float64) (g *gap, exp int) {
	mantissa, step := parts(m)
	g = &gap{ // in quarters of a step, as the number below a power of two is half as far off
		num:  shifted(new(big.Int).SetUint64(4*mantissa), step),
		den:  shifted(big.NewInt(4), -step),
		down: shifted(big.NewInt(2), step),
		up:   shifted(big.NewInt(2), step),
		ends: mantissa%2 == 0,
	}
	if mantissa == 1<<mantissaBits && step > leastStep {
		g.down.Rsh(g.down, 1)
	}
	// 78913 / 2^18 is the logarithm of 2 to the base 10, near enough: this power of ten is the one looked for or a little less.
	exp = (step + new(big.Int).SetUint64(mantissa).BitLen() - 1) * 78913 >> 18
	if exp > 0 {
		g.den.Mul(g.den, tenTo(exp))
	} else {
		g.scale(tenTo(-exp))
	}
	for g.num.Cmp(g.den) >= 0 {
		g.den.Mul(g.den, big.NewInt(10))
		exp++
	}
	return g, exp
}

// parts: the whole numbers mantissa and step with m = mantissa * 2^step. M is finite and positive.
func parts(m float64) (mantissa uint64, step int) {
	bits := math.Float64bits(m)
	mantissa, exponent := bits%(1<<mantissaBits), int(bits>>mantissaBits)
	if exponent == 0 {
		return mantissa, leastStep
	}
	return mantissa + 1<<mantissaBits, exponent - 1 + leastStep
}

// scale: tells the gap in units that are so many times smaller.
func (g *gap) scale(by *big.Int) {
	g.num.Mul(g.num, by)
	g.down.Mul(g.down, by)
	g.up.Mul(g.up, by)
}

// next: the next digit, which is taken off the number.
func (g *gap) next() uint64 {
	g.scale(big.NewInt(10))
	digit := uint64(0)
	for g.num.Cmp(g.den) >= 0 { // a digit is so small that this is quicker than a division
		g.num.Sub(g.num, g.den)
		digit++
	}
	return digit
}

// reaches: do the digits taken so far round to the number, and do they with one more in the last place?
func (g *gap) reaches() (below, above bool) {
	low := g.num.Cmp(g.down)
	high := new(big.Int).Add(g.num, g.up).Cmp(g.den)
	return low < 0 || g.ends && low == 0, high > 0 || g.ends && high == 0
}

// nearer: digits, or one more, whichever is nearer to the number; the even one, if neither is.
func (g *gap) nearer(digits uint64) uint64 {
	half := new(big.Int).Lsh(g.num, 1).Cmp(g.den)
	if half > 0 || half == 0 && digits%2 == 1 {
		return digits + 1
	}
	return digits
}

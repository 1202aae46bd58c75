package num

import (
	"math"
	"math/big"
	"strings"

	"weir/api"
)

const (
	// exactDigits: a whole number of so many digits is a float, and decimals of so many digits that differ round to floats that differ.
	exactDigits = 15

	// farExponent: an exponent as great as this one decides by itself, whatever MaxNumber bytes stand ahead of it, so that its further digits needn't be read.
	farExponent = 10000

	// A value of at least 10^309 is too great, and one below 10^-324 is below half of the least number.
	greatestTop = 309
	leastTop    = -324

	mantissaBits = 52    // without the first one, which isn't kept
	leastStep    = -1074 // the least number is 2^leastStep
)

// powers: the powers of ten that are floats, exactly.
func powers() [23]float64 {
	return [23]float64{
		1, 1e1, 1e2, 1e3, 1e4, 1e5, 1e6, 1e7, 1e8, 1e9, 1e10, 1e11,
		1e12, 1e13, 1e14, 1e15, 1e16, 1e17, 1e18, 1e19, 1e20, 1e21, 1e22,
	}
}

// Read: the number of a lexeme, which is the whole of s, rightly rounded.
func Read(s string) (float64, api.Errno) {
	switch {
	case len(s) > api.MaxNumber:
		return 0, api.ErrLong
	case isWord(s, "inf"):
		return math.Inf(1), api.OK
	case isWord(s, "nan"):
		return math.NaN(), api.OK
	case s == "" || Prefix(s) != len(s):
		return 0, api.ErrNumber
	case isHex(s):
		return rounded(whole(s[2:], 16), big.NewInt(1))
	}
	return splitDecimal(s).value()
}

// Parse: the number of a lexeme with perhaps a sign ahead of it.
func Parse(s string) (float64, bool) {
	if len(s) > api.MaxNumber {
		return 0, false
	}
	lexeme, minus := strings.CutPrefix(s, "-")
	if !minus {
		lexeme = strings.TrimPrefix(s, "+")
	}
	v, e := Read(lexeme)
	if e != api.OK {
		return 0, false
	}
	if minus {
		v = -v
	}
	return v, true
}

// A decimal is digits * 10^exp. Its digits begin with none that is 0: nought has no digits.
type decimal struct {
	digits string
	exp    int
}

// splitDecimal: the parts of a decimal lexeme.
func splitDecimal(s string) decimal {
	mantissa, exp := s, 0
	if at := strings.IndexAny(s, "eE"); at >= 0 {
		mantissa, exp = s[:at], exponent(s[at+1:])
	}
	before, behind, _ := strings.Cut(mantissa, ".")
	return decimal{strings.TrimLeft(before+behind, "0"), exp - len(behind)}
}

// exponent: the number of an exponent's digits and sign, or another one that is as far off.
func exponent(s string) int {
	n := 0
	for _, r := range strings.TrimLeft(s, "+-") {
		if n < farExponent {
			n = n*10 + int(r-'0')
		}
	}
	if s[0] == '-' {
		return -n
	}
	return n
}

// value: the decimal's value, rightly rounded.
func (d decimal) value() (float64, api.Errno) {
	top := len(d.digits) + d.exp // the value is below 10^top, and not below a tenth of it
	switch {
	case d.digits == "" || top <= leastTop:
		return 0, api.OK
	case top > greatestTop:
		return 0, api.ErrHuge
	}
	if v, ok := d.quick(); ok {
		return v, api.OK
	}
	digits := whole(d.digits, 10)
	if d.exp >= 0 {
		return rounded(digits.Mul(digits, tenTo(d.exp)), big.NewInt(1))
	}
	return rounded(digits, tenTo(-d.exp))
}

// quick: the value of a decimal of few digits and a small exponent. Both its digits and its power are floats, exactly, so that the one operation rounds rightly.
func (d decimal) quick() (float64, bool) {
	table := powers()
	if len(d.digits) > exactDigits || d.exp >= len(table) || -d.exp >= len(table) {
		return 0, false
	}
	v := 0.0
	for _, r := range d.digits {
		v = float64(v*10) + float64(r-'0')
	}
	if d.exp < 0 {
		return v / table[-d.exp], true
	}
	return float64(v * table[d.exp]), true
}

// whole: the number of digits in that base.
func whole(digits string, base int) *big.Int {
	n, _ := new(big.Int).SetString(digits, base)
	return n
}

// tenTo: 10^n.
func tenTo(n int) *big.Int {
	return new(big.Int).Exp(big.NewInt(10), big.NewInt(int64(n)), nil)
}

// rounded: num/den rightly rounded. Num isn't negative, den is positive.
func rounded(num, den *big.Int) (float64, api.Errno) {
	if num.Sign() == 0 { // it has no first bit to count steps from
		return 0, api.OK
	}
	// The mantissa has one bit too many with this step, if not just enough.
	step := max(num.BitLen()-den.BitLen()-mantissaBits-1, leastStep)
	mantissa, rest, unit := divided(num, den, step)
	if mantissa.BitLen() > mantissaBits+1 {
		step++
		mantissa, rest, unit = divided(num, den, step)
	}
	kept := mantissa.Uint64()
	half := rest.Lsh(rest, 1).Cmp(unit)
	if half > 0 || half == 0 && kept%2 == 1 {
		kept++
	}
	// The first bit of the mantissa falls into the exponent and counts it up by one, as it should: numbers without that bit have the exponent of the least that have it. So does a carry.
	bits := uint64(step-leastStep)<<mantissaBits + kept
	if bits >= math.Float64bits(math.Inf(1)) {
		return 0, api.ErrHuge
	}
	return math.Float64frombits(bits), api.OK
}

// divided: num/den in steps of 2^step: how many whole ones there are, what is left, and what one more would take.
func divided(num, den *big.Int, step int) (count, rest, unit *big.Int) {
	num, unit = shifted(num, -step), shifted(den, step)
	count, rest = new(big.Int).QuoRem(num, unit, new(big.Int))
	return count, rest, unit
}

// shifted: n * 2^by, or n itself where by isn't positive.
func shifted(n *big.Int, by int) *big.Int {
	return new(big.Int).Lsh(n, uint(max(by, 0)))
}

package num_test

import (
	"math"
	"math/big"
	"math/rand/v2"
	"regexp"
	"strconv"
	"strings"
)

// The chapter's words, written down a second time and in another way, to hold the package against.

var (
	decimalForm = regexp.MustCompile(`^([0-9]+(\.[0-9]*)?|\.[0-9]+)([eE][+-]?[0-9]+)?$`)
	hexForm     = regexp.MustCompile(`^0[xX][0-9a-fA-F]+$`)
	infForm     = regexp.MustCompile(`^[iI][nN][fF]$`)
	nanForm     = regexp.MustCompile(`^[nN][aA][nN]$`)
)

// prefix: the longest beginning that is a lexeme, by trying each.
func prefix(s string) int {
	for n := len(s); n > 0; n-- {
		if decimalForm.MatchString(s[:n]) || hexForm.MatchString(s[:n]) {
			return n
		}
	}
	return 0
}

// value: the rational number that a decimal or hexadecimal lexeme writes. An exponent of more than four digits is cut: what stands ahead of it has too few to outweigh it.
func value(s string) *big.Rat {
	if hexForm.MatchString(s) {
		n, _ := new(big.Int).SetString(s[2:], 16)
		return new(big.Rat).SetInt(n)
	}
	mantissa, exp, has := strings.Cut(strings.ToLower(s), "e")
	if has {
		sign := strings.TrimRight(exp, "0123456789")
		digits := strings.TrimLeft(exp[len(sign):], "0")
		exp = sign + "0" + digits
		if len(digits) > 4 {
			exp = sign + "9999"
		}
	} else {
		exp = "0"
	}
	whole, fraction, _ := strings.Cut(mantissa, ".")
	n, _ := new(big.Int).SetString("0"+whole+fraction, 10)
	e, _ := strconv.Atoi(exp)
	return scaled(n, e-len(fraction))
}

// scaled: d * 10^e.
func scaled(d *big.Int, e int) *big.Rat {
	v := new(big.Rat).SetInt(d)
	power := new(big.Rat).SetInt(new(big.Int).Exp(big.NewInt(10), big.NewInt(int64(max(e, -e))), nil))
	if e < 0 {
		return v.Quo(v, power)
	}
	return v.Mul(v, power)
}

const firstHuge = 0x7FF0000000000000 // the bits of +Inf

// exactly: the value of the bits of a number that isn't negative; those of +Inf are 2^1024.
func exactly(bits uint64) *big.Rat {
	if bits == firstHuge {
		return new(big.Rat).SetInt(new(big.Int).Lsh(big.NewInt(1), 1024))
	}
	return new(big.Rat).SetFloat64(math.Float64frombits(bits))
}

// halfway: the value in the middle between the number of these bits and the next.
func halfway(bits uint64) *big.Rat {
	sum := new(big.Rat).Add(exactly(bits), exactly(bits+1))
	return sum.Quo(sum, big.NewRat(2, 1))
}

// nearest: the bits of the number nearest to v, by halving the list of all numbers; those of +Inf, if v is too great.
func nearest(v *big.Rat) uint64 {
	low, high := uint64(0), uint64(firstHuge) // low <= v < high
	if v.Cmp(exactly(firstHuge)) >= 0 {
		return firstHuge
	}
	for high-low > 1 {
		middle := low + (high-low)/2
		if exactly(middle).Cmp(v) <= 0 {
			low = middle
		} else {
			high = middle
		}
	}
	side := v.Cmp(halfway(low))
	if side > 0 || side == 0 && low%2 == 1 {
		return high
	}
	return low
}

// someRand: numbers that look random, the same in each run.
func someRand() *rand.Rand {
	return rand.New(rand.NewPCG(2, 512))
}

// edges: floats at the ends of things: powers of two and of ten with their neighbours, the least numbers, the whole numbers near 2^53 and 2^63.
func edges() []float64 {
	var out []float64
	add := func(v float64) {
		out = append(out, v, math.Nextafter(v, 0), math.Nextafter(v, math.MaxFloat64))
	}
	for e := -1074; e <= 1023; e++ {
		add(math.Ldexp(1, e))
	}
	for e := -323; e <= 308; e++ {
		v, _ := strconv.ParseFloat("1e"+strconv.Itoa(e), 64)
		add(v)
		add(v * 1.5)
	}
	for b := range uint64(300) {
		out = append(out, math.Float64frombits(b), math.Float64frombits(firstHuge-1-b))
	}
	for n := range 300 {
		out = append(out, float64(n), float64(n)/10, float64(n)/100, 1<<53-150+float64(n), 1<<63-150+float64(n))
	}
	return append(out, 0.1+0.2, 1.0/3, 1e23, 1125899906842624.25, 9007199254740993, 5e-324, 4.35, 0.000001)
}

// someFloats: finite floats of every size and of few digits, none of them negative.
func someFloats(count int) []float64 {
	r := someRand()
	var out []float64
	for range count {
		out = append(out, math.Float64frombits(r.Uint64N(firstHuge)))
		out = append(out, float64(r.Uint64N(1<<r.IntN(64))))
		out = append(out, float64(r.Uint64N(1<<r.IntN(60)))/math.Pow10(r.IntN(25)))
		out = append(out, math.Float64frombits(r.Uint64N(1<<(1+r.IntN(53)))))
	}
	return out
}

// someLexemes: lexemes of every form and size: of few digits and of many, near the numbers that lie half way, with exponents.
func someLexemes(count int) []string {
	r := someRand()
	digits := func(most int) string {
		var b strings.Builder
		for range 1 + r.IntN(most) {
			b.WriteByte(byte('0' + r.IntN(10)))
		}
		return b.String()
	}
	exp := func() string {
		return string("eE"[r.IntN(2)]) + []string{"", "+", "-"}[r.IntN(3)] + strconv.Itoa(r.IntN(340))
	}
	var out []string
	for range count {
		out = append(out, digits(20), digits(5)+"."+digits(5), "."+digits(30), digits(20)+exp(), digits(12)+"."+digits(12)+exp(), digits(250)+"."+digits(250), digits(3)+"."+exp())
		out = append(out, "0x"+strconv.FormatUint(r.Uint64(), 16), "0X"+strings.ToUpper(strconv.FormatUint(r.Uint64(), 16))+digits(3))
		out = append(out, between(r.Uint64N(0x4800000000000000-0x3800000000000000)+0x3800000000000000)...)
	}
	return out
}

// between: the decimal that lies half way between a number and the next, and two that lie beside it, if they aren't too long.
func between(bits uint64) []string {
	text := halfway(bits).FloatString(300)
	text = strings.TrimRight(text, "0")
	return []string{text, text + "0000001", text[:len(text)-1], text[:len(text)-1] + "9"}
}

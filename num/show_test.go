package num_test

import (
	"math"
	"math/big"
	"regexp"
	"strconv"
	"strings"
	"testing"

	"weir/num"
)

var plainForm = regexp.MustCompile(`^(0|[1-9][0-9]*)(\.[0-9]*[1-9])?$`)

// shown: the d and e of a plain decimal, d without noughts at its end.
func shown(s string) (*big.Int, int) {
	whole, fraction, _ := strings.Cut(s, ".")
	digits, e := whole+fraction, -len(fraction)
	for strings.HasSuffix(digits, "0") {
		digits, e = digits[:len(digits)-1], e+1
	}
	d, _ := new(big.Int).SetString(digits, 10)
	return d, e
}

// around: the greatest decimal of so many digits that isn't above m, and the least that is above it.
func around(m *big.Rat, digits int) (d *big.Int, e int) {
	low := new(big.Int).Exp(big.NewInt(10), big.NewInt(int64(digits-1)), nil)
	f, _ := m.Float64()
	_, two := math.Frexp(f)
	e = int(float64(two)*0.30103) - digits - 3
	for m.Cmp(scaled(new(big.Int).Mul(low, big.NewInt(10)), e)) >= 0 {
		e++
	}
	q := new(big.Rat).Quo(m, scaled(big.NewInt(1), e))
	return new(big.Int).Quo(q.Num(), q.Denom()), e
}

// checkShow holds Show of a finite positive number against the chapter's words.
func checkShow(t *testing.T, v float64) {
	t.Helper()
	s, bits, m := num.Show(v), math.Float64bits(v), exactly(math.Float64bits(v))
	if !plainForm.MatchString(s) || len(s) > 327 {
		t.Errorf("Show(%v) = %q", v, s)
		return
	}
	d, e := shown(s)
	if nearest(scaled(d, e)) != bits {
		t.Errorf("Show(%v) = %q, which rounds to another number", v, s)
	}
	one := big.NewInt(1)
	length := len(d.String())
	if length > 1 { // of fewer digits those next to m would round to it, if any did
		below, at := around(m, length-1)
		if nearest(scaled(below, at)) == bits || nearest(scaled(new(big.Int).Add(below, one), at)) == bits {
			t.Errorf("Show(%v) = %q isn't the shortest", v, s)
		}
	}
	distance := func(d *big.Int, e int) *big.Rat {
		away := new(big.Rat).Sub(scaled(d, e), m)
		return away.Abs(away)
	}
	below, at := around(m, length)
	for _, other := range []*big.Int{below, new(big.Int).Add(below, one)} {
		if scaled(other, at).Cmp(scaled(d, e)) == 0 || nearest(scaled(other, at)) != bits {
			continue
		}
		nearer := distance(other, at).Cmp(distance(d, e))
		if nearer < 0 || nearer == 0 && d.Bit(0) == 1 {
			t.Errorf("Show(%v) = %q; %de%d is better", v, s, other, at)
		}
	}
}

// P2.2: the chapter's examples, and what isn't finite or is nought.
func TestShowExamples(t *testing.T) {
	tenth, fifth := 0.1, 0.2
	for want, v := range map[string]float64{
		"100": 100, "100000000000000000000000": 1e23, "0.30000000000000004": tenth + fifth, "-1.5": -1.5, "1125899906842624.2": 1125899906842624.25, "1125899906842624.8": 1125899906842624.75,
		"17976931348623157" + strings.Repeat("0", 292): math.MaxFloat64, "0." + strings.Repeat("0", 323) + "5": 5e-324, "-0." + strings.Repeat("0", 323) + "5": -5e-324,
		"0": 0, "-0": math.Copysign(0, -1), "+Inf": math.Inf(1), "-Inf": math.Inf(-1), "0.1": 0.1, "1": 1, "10": 10, "-7": -7, "0.000001": 0.000001, "123456.789": 123456.789, "9007199254740993000": 9007199254740993000, "0.3333333333333333": 1.0 / 3,
		"0." + strings.Repeat("0", 322) + "1": 1e-323, "18014398509481984": 1 << 54,
	} {
		if s := num.Show(v); s != want {
			t.Errorf("Show(%v) = %q; want %q", v, s, want)
		}
	}
	for _, bits := range []uint64{0x7FF8000000000001, 0x7FF0000000000001, 0xFFF0000000000001, 0xFFFFFFFFFFFFFFFF, 0x7FFFFFFFFFFFFFFF, 0xFFF8000000000000} {
		if s := num.Show(math.Float64frombits(bits)); s != "NaN" {
			t.Errorf("Show of the bits %x = %q", bits, s)
		}
	}
}

// P2.2, P2.3: the shortest, of these the nearest, of these the even one.
func TestShowIsShortest(t *testing.T) {
	for i, v := range edges() {
		if v != 0 && (v < 1e-300 && i%5 == 0 || v >= 1e-300 && i%11 == 0 || v < 1e-320) {
			checkShow(t, v)
		}
	}
	for _, v := range someFloats(60) {
		if v != 0 {
			checkShow(t, v)
		}
	}
}

// P2.2: equally near: the even one.
func TestShowEven(t *testing.T) {
	for n := range 64 {
		checkShow(t, 1<<50+float64(n)/4)
		checkShow(t, 1<<51+float64(n)/2)
		checkShow(t, 1<<54+float64(4*n))
		checkShow(t, 1<<49+float64(n)/8)
	}
}

// P2.2: the same as the library's shortest decimals, and its mirror below nought.
func TestShowManyAndBack(t *testing.T) {
	for _, v := range append(edges(), someFloats(10000)...) {
		s := num.Show(v)
		if want := strconv.FormatFloat(v, 'f', -1, 64); s != want {
			t.Fatalf("Show(%v) = %q; want %q", v, s, want)
		}
		if minus := num.Show(-v); minus != "-"+s {
			t.Fatalf("Show(%v) = %q; Show of its negation %q", v, s, minus)
		}
		for _, v := range []float64{v, -v} {
			back, ok := num.Parse(num.Show(v))
			if !ok || math.Float64bits(back) != math.Float64bits(v) {
				t.Fatalf("Parse(Show(%v)) = %v, %v", v, back, ok)
			}
		}
	}
	for _, v := range []float64{math.NaN(), math.Inf(1), math.Inf(-1), math.Copysign(0, -1), 0} {
		if back, ok := num.Parse(num.Show(v)); !ok || !num.Same(back, v) {
			t.Errorf("Parse(Show(%v)) = %v, %v", v, back, ok)
		}
	}
}

// The chapter's Limits: no answer of Show has more than 327 bytes, and one has so many.
func TestShowLength(t *testing.T) {
	longest := 0
	for _, v := range append(edges(), someFloats(3000)...) {
		longest = max(longest, len(num.Show(-v)))
	}
	for bits := uint64(0); bits < 1<<52; bits += 1<<39 + 12345 {
		longest = max(longest, len(num.Show(-math.Float64frombits(bits))))
	}
	if longest > 327 {
		t.Errorf("an answer of Show has %d bytes", longest)
	}
}

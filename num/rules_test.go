package num_test

import (
	"math"
	"strconv"
	"strings"
	"sync"
	"testing"

	"weir/api"
	"weir/num"
)

// hostile: texts that are wrong, cut short or long.
func hostile() []string {
	out := []string{"", "\x00", "\xff", "-", "+", ".", "e", "E", "x", "0x", "0X", "1e", "1e+", "1e-", "i", "in", "n", "na", "-.", "+e", "\xc3", "\xf0\x9f\x98"}
	for _, s := range []string{"0", "9", ".", "e", "-", "+", "x", "0x", "1e", "1.", "\xff", "inf", "1e-9"} {
		for _, n := range []int{100, 170, 256, 511, 512, 513, 1000000} {
			out = append(out, strings.Repeat(s, n), "0x"+strings.Repeat(s, n), "1e"+strings.Repeat(s, n), "."+strings.Repeat(s, n))
		}
	}
	return out
}

// P1, rule 1: no call panics, and each ends.
func TestTotal(t *testing.T) {
	for _, s := range hostile() {
		num.Read(s)
		num.Parse(s)
		num.Parse("-" + s)
		if n := num.Prefix(s); n < 0 || n > len(s) {
			t.Errorf("Prefix(%.20q) = %d", s, n)
		}
	}
	r := someRand()
	floats := []float64{0, math.Copysign(0, -1), math.NaN(), math.Inf(1), math.Inf(-1), math.MaxFloat64, -math.MaxFloat64, 5e-324, -5e-324, math.Float64frombits(0x7FF0000000000001)}
	for range 2000 {
		floats = append(floats, math.Float64frombits(r.Uint64()))
	}
	for _, v := range floats {
		if s := num.Show(v); s == "" {
			t.Errorf("Show(%v) is empty", v)
		}
		num.ToInt(v)
		num.FromBits(num.Bits(v))
		num.Same(v, -v)
		num.Order(v, -v)
	}
}

// P1, rule 3: beside an error and beside false stands nought, +0.
func TestZeroBesideAnError(t *testing.T) {
	for _, s := range append(hostile(), "1e400", "1e309", "-1e400", "1.7976931348623159e308", "infinity", "--inf", "nan0", "0x"+strings.Repeat("f", 300), strings.Repeat("9", 400)) {
		if v, e := num.Read(s); e != api.OK && math.Float64bits(v) != 0 {
			t.Errorf("Read(%.20q) = %v beside error %d", s, v, e)
		}
		if v, ok := num.Parse(s); !ok && math.Float64bits(v) != 0 {
			t.Errorf("Parse(%.20q) = %v beside false", s, v)
		}
	}
	for _, v := range []float64{math.NaN(), math.Inf(1), math.Inf(-1), 1e19, -1e19} {
		if n, ok := num.ToInt(v); ok || n != 0 {
			t.Errorf("ToInt(%v) = %d, %v", v, n, ok)
		}
	}
}

// P1, rule 2: the errors in their order: a text that is too long is ErrLong, whatever it holds.
func TestOrderOfErrors(t *testing.T) {
	for s, want := range map[string]api.Errno{
		strings.Repeat("x", 513):                 api.ErrLong,
		strings.Repeat("9", 513):                 api.ErrLong,
		"0x" + strings.Repeat("f", 511):          api.ErrLong,
		strings.Repeat("9", 511) + "x":           api.ErrNumber,
		"1e999" + strings.Repeat("9", 500) + "x": api.ErrNumber,
		strings.Repeat("9", 512):                 api.ErrHuge,
	} {
		if v, e := num.Read(s); e != want || v != 0 {
			t.Errorf("Read(%.20q..) = %v, %d; want %d", s, v, e, want)
		}
	}
}

// P2 and rule 6: the same arguments give the same answers, whoever asks beside and whatever was asked ahead.
func TestNothingIsKept(t *testing.T) {
	lexemes, floats := someLexemes(50), someFloats(50)
	ask := func() string {
		var b strings.Builder
		for _, s := range lexemes {
			v, e := num.Read(s)
			b.WriteString(num.Show(v) + e.Error() + "\n")
		}
		for _, v := range floats {
			b.WriteString(num.Show(v) + "\n")
		}
		return b.String()
	}
	want := ask()
	var all sync.WaitGroup
	for range 4 {
		all.Go(func() {
			if ask() != want {
				t.Error("the same questions were answered in two ways")
			}
		})
	}
	all.Wait()
}

// P1, rule 7: each operation is rounded by itself: what Read takes by floats is what exact arithmetic gives.
func TestReadByFloatsIsExact(t *testing.T) {
	r := someRand()
	for range 500 {
		digits := strconv.FormatUint(r.Uint64N(1e15), 10)
		for _, e := range []string{"", "e1", "e22", "e-1", "e-22", "e23", "e-23"} {
			if v, _ := num.Read(digits + e); math.Float64bits(v) != nearest(value(digits+e)) {
				t.Fatalf("Read(%q) = %v", digits+e, v)
			}
		}
	}
}

package num_test

import (
	"math"
	"testing"

	"weir/num"
)

// nans: the bits of some NaNs: quiet ones and signalling ones of both signs.
func nans() []uint64 {
	return []uint64{0x7FF8000000000001, 0x7FF8000000000000, 0x7FF0000000000001, 0x7FFFFFFFFFFFFFFF, 0xFFF0000000000001, 0xFFF8000000000000, 0xFFFFFFFFFFFFFFFF, 0x7FF7FFFFFFFFFFFF, 0xFFF7FFFFFFFFFFFF}
}

// P2.5: Bits and FromBits, there and back.
func TestBits(t *testing.T) {
	for v, want := range map[float64]uint64{0: 0, 1: 0x3FF0000000000000, -2: 0xC000000000000000, 5e-324: 1, math.MaxFloat64: 0x7FEFFFFFFFFFFFFF, math.Inf(1): 0x7FF0000000000000, math.Inf(-1): 0xFFF0000000000000, 0.1: 0x3FB999999999999A} {
		if b := num.Bits(v); b != want {
			t.Errorf("Bits(%v) = %x; want %x", v, b, want)
		}
		if back := num.FromBits(want); back != v {
			t.Errorf("FromBits(%x) = %v; want %v", want, back, v)
		}
	}
	if b := num.Bits(math.Copysign(0, -1)); b != 1<<63 {
		t.Errorf("Bits(-0) = %x", b)
	}
	if v := num.FromBits(1 << 63); v != 0 || !math.Signbit(v) {
		t.Errorf("FromBits of -0's bits = %v", v)
	}
	for _, b := range nans() {
		if v := num.FromBits(b); v == v {
			t.Errorf("FromBits(%x) = %v", b, v)
		}
		if back := num.Bits(num.FromBits(b)); back != 0x7FF8000000000001 {
			t.Errorf("Bits(FromBits(%x)) = %x", b, back)
		}
	}
	r := someRand()
	for range 100000 {
		b := r.Uint64()
		want := b
		if b>>52&0x7FF == 0x7FF && b<<12 != 0 {
			want = 0x7FF8000000000001
		}
		if back := num.Bits(num.FromBits(b)); back != want {
			t.Fatalf("Bits(FromBits(%x)) = %x; want %x", b, back, want)
		}
	}
}

// line: numbers in their order, each in a group with those that are equal to it.
func line() [][]float64 {
	var first []float64
	for _, b := range nans() {
		first = append(first, math.Float64frombits(b))
	}
	minus := math.Copysign(0, -1)
	return [][]float64{
		first, {math.Inf(-1)}, {-math.MaxFloat64}, {-1e300}, {math.Nextafter(-1, -2)}, {-1}, {-0.5}, {-5e-324}, {minus, 0},
		{5e-324}, {1e-300}, {0.5}, {1}, {math.Nextafter(1, 2)}, {1 << 53}, {1 << 63}, {math.MaxFloat64}, {math.Inf(1)},
	}
}

// P2.5: Order, over every two of the line.
func TestOrder(t *testing.T) {
	for i, group := range line() {
		for j, other := range line() {
			want := min(max(i-j, -1), 1)
			for _, a := range group {
				for _, b := range other {
					if got := num.Order(a, b); got != want {
						t.Errorf("Order(%v, %v) = %d; want %d", a, b, got, want)
					}
				}
			}
		}
	}
}

// P2.5: Same: all NaNs are alike, the two noughts aren't.
func TestSame(t *testing.T) {
	for i, group := range line() {
		for j, other := range line() {
			for k, a := range group {
				for l, b := range other {
					want := i == j && (k == l || i == 0)
					if got := num.Same(a, b); got != want {
						t.Errorf("Same(%v, %v) = %v; want %v", a, b, got, want)
					}
				}
			}
		}
	}
}

// P2.5: ToInt.
func TestToInt(t *testing.T) {
	const top, bottom = 9223372036854775808.0, -9223372036854775808.0
	for _, c := range []struct {
		v    float64
		want int64
		ok   bool
	}{
		{-2.9, -2, true}, {2.9, 2, true}, {0.5, 0, true}, {-0.5, 0, true}, {math.Copysign(0, -1), 0, true}, {0, 0, true}, {5e-324, 0, true}, {-1, -1, true}, {1e18, 1e18, true}, {4503599627370495.5, 4503599627370495, true},
		{top, 0, false}, {math.Nextafter(top, 0), math.MaxInt64 - 1023, true}, {bottom, math.MinInt64, true}, {math.Nextafter(bottom, 0), math.MinInt64 + 1024, true}, {math.Nextafter(bottom, math.Inf(-1)), 0, false},
		{math.NaN(), 0, false}, {math.Inf(1), 0, false}, {math.Inf(-1), 0, false}, {math.MaxFloat64, 0, false}, {-math.MaxFloat64, 0, false},
	} {
		if n, ok := num.ToInt(c.v); n != c.want || ok != c.ok {
			t.Errorf("ToInt(%v) = %d, %v; want %d, %v", c.v, n, ok, c.want, c.ok)
		}
	}
	r := someRand()
	for range 100000 {
		v := math.Float64frombits(r.Uint64())
		n, ok := num.ToInt(v)
		if want := math.Trunc(v) >= bottom && math.Trunc(v) < top; ok != want || ok && float64(n) != math.Trunc(v) || !ok && n != 0 {
			t.Fatalf("ToInt(%v) = %d, %v", v, n, ok)
		}
	}
}

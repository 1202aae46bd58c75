package pair_test

import (
	"math"
	"strings"
	"testing"

	"weir/api"
	"weir/calc"
	"weir/pair"
)

func checkScalars(t *testing.T, op string, a, b, want float64, wantE api.Errno) {
	t.Helper()
	if v, e := pair.Scalars(op, a, b); !same(v, want) || e != wantE {
		t.Errorf("Scalars(%.20q, %v, %v) = %v (%016X), %d; want %v (%016X), %d", op, a, b, v, math.Float64bits(v), e, want, math.Float64bits(want), wantE)
	}
}

// P21.1: the chapter's examples, and each operator by hand.
func TestScalarsExamples(t *testing.T) {
	for _, c := range []struct {
		op         string
		a, b, want float64
	}{
		{"%", -5, 3, -2}, {"==", nan, nan, 0},
		{"+", 2, 3, 5}, {"-", 2, 3, -1}, {"*", 2, 3, 6}, {"/", 3, 2, 1.5}, {"%", 5, -3, 2}, {"%", 7, 4, 3}, {"^", 2, 3, 8}, {"^", 3, 2, 9},
		{"+", 0.1, 0.2, 0.30000000000000004}, {"+", minus, minus, minus}, {"+", minus, 0, 0}, {"+", 1, -1, 0}, {"+", inf, -inf, nan}, {"+", greatest, greatest, inf}, {"+", 1 << 53, 1, 1 << 53}, {"+", nan, 1, nan}, {"+", least, least, 2 * least},
		{"-", 0, 0, 0}, {"-", minus, 0, minus}, {"-", 0, minus, 0}, {"-", inf, inf, nan}, {"-", -greatest, greatest, -inf}, {"-", 1, nan, nan},
		{"*", minus, 3, minus}, {"*", -3, 0, minus}, {"*", minus, minus, 0}, {"*", 0, inf, nan}, {"*", least, 0.5, 0}, {"*", -least, 0.5, minus}, {"*", least, 1.5, 2 * least}, {"*", 1e200, -1e200, -inf}, {"*", 0, nan, nan},
		{"/", 1, 0, inf}, {"/", 1, minus, -inf}, {"/", -1, 0, -inf}, {"/", 0, 0, nan}, {"/", minus, 0, nan}, {"/", 0, -1, minus}, {"/", 1, inf, 0}, {"/", 1, -inf, minus}, {"/", inf, inf, nan}, {"/", 1, 3, 0x1.5555555555555p-2}, {"/", least, 2, 0}, {"/", greatest, 0.5, inf},
		{"%", 5, 0, nan}, {"%", -6, 3, minus}, {"%", 5, inf, 5}, {"%", -5, -inf, -5}, {"%", inf, 3, nan}, {"%", 5.5, 2, 1.5}, {"%", minus, 5, minus}, {"%", 1, least, 0}, {"%", nan, 1, nan},
		{"^", nan, 0, 1}, {"^", 1, nan, 1}, {"^", -8, 0.5, nan}, {"^", 2, -1, 0.5}, {"^", minus, -3, -inf}, {"^", 2, 1024, inf}, {"^", 4, 0.5, calc.Pow(4, 0.5)},
	} {
		checkScalars(t, c.op, c.a, c.b, c.want, 0)
	}
	checkScalars(t, "and", 1, 1, 0, api.ErrKind)
}

// P21.1: each comparison of numbers that rise, fall, are equal, or can't be held against each other.
func TestScalarsCompare(t *testing.T) {
	pairs := map[string][][2]float64{
		"rising":  {{1, 2}, {-2, -1}, {-1, 1}, {0, least}, {-least, minus}, {-least, 0}, {1, math.Nextafter(1, 2)}, {greatest, inf}, {-inf, -greatest}, {-inf, inf}, {1 << 53, 1<<53 + 2}},
		"equal":   {{1, 1}, {0, 0}, {0, minus}, {minus, 0}, {minus, minus}, {inf, inf}, {-inf, -inf}, {greatest, greatest}, {-least, -least}},
		"neither": {{nan, nan}, {nan, 1}, {1, nan}, {nan, inf}, {-inf, nan}, {nan, 0}, {minus, nan}, {math.Float64frombits(0xFFF0000000000007), math.Float64frombits(0xFFF0000000000007)}},
	}
	for _, two := range pairs["rising"] {
		pairs["falling"] = append(pairs["falling"], [2]float64{two[1], two[0]})
	}
	held := map[string]string{"rising": " != < <= ", "falling": " != > >= ", "equal": " == <= >= ", "neither": " != "}
	for how, list := range pairs {
		for _, two := range list {
			for _, op := range comparisons() {
				checkScalars(t, op, two[0], two[1], oneIf(strings.Contains(held[how], " "+op+" ")), 0)
			}
		}
	}
}

// P21.1: all operators of all the floats at which things end, and of floats by chance, by exact arithmetic.
func TestScalarsValues(t *testing.T) {
	c := newChance(1)
	check := func(a, b float64) {
		for _, op := range operators() {
			want, wantE := wordsScalars(op, a, b)
			checkScalars(t, op, a, b, want, wantE)
		}
	}
	for _, a := range special() {
		for _, b := range special() {
			check(a, b)
		}
	}
	for range 3000 {
		check(c.dice.NormFloat64(), c.dice.NormFloat64())
		check(float64(c.dice.IntN(2000)-1000)/8, float64(c.dice.IntN(200)-100)/16)
	}
	for range 300 {
		check(math.Float64frombits(c.dice.Uint64()), math.Float64frombits(c.dice.Uint64()))
	}
}

// P21.1 and rule 3: texts that are no operator between numbers: ErrKind, and 0 beside it.
func TestScalarsKind(t *testing.T) {
	for _, op := range append(wrongOperators(), setOperators()...) {
		for _, two := range [][2]float64{{1, 1}, {nan, nan}, {-inf, minus}} {
			checkScalars(t, op, two[0], two[1], 0, api.ErrKind)
		}
	}
	if n := len(operators()); n != 15 {
		t.Errorf("%d operators", n)
	}
}

// Rule 7: each operation is rounded by itself: a product that goes into a sum is not fused with it.
func TestScalarsRoundEach(t *testing.T) {
	c, apart := newChance(2), 0
	for range 2000 {
		a, b, d := c.dice.NormFloat64(), c.dice.NormFloat64(), c.dice.NormFloat64()
		product, _ := pair.Scalars("*", a, b)
		got, _ := pair.Scalars("+", product, d)
		if want := wordsPlus(wordsTimes(a, b), d); !same(got, want) {
			t.Errorf("%v * %v + %v = %v; want %v", a, b, d, got, want)
		}
		if math.FMA(a, b, d) != got {
			apart++
		}
	}
	if apart == 0 {
		t.Error("no numbers of which a fused answer is another")
	}
}

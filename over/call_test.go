package over_test

import (
	"math"
	"slices"
	"strings"
	"testing"

	"weir/api"
	"weir/calc"
	"weir/check"
	"weir/over"
)

// P20.1: the chapter's examples.
func TestExamples(t *testing.T) {
	rising, fallen, holes := even(1, 2, 3, 4), even(5, 1, 2, 3), even(nan, 2, nan, 1)
	times := 60.0 / 45 // a variable: constants would be reckoned without rounding
	for _, c := range []struct {
		name string
		w    api.Window
		want float64
	}{
		{"increase", rising, 4}, {"delta", rising, 4}, {"rate", rising, 3 * (times / 60)}, {"irate", rising, 1.0 / 15}, {"idelta", rising, 1},
		{"resets", rising, 0}, {"changes", rising, 3}, {"sum_over_time", rising, 10}, {"avg_over_time", rising, 2.5}, {"max_over_time", rising, 4}, {"first_over_time", rising, 1},
		{"increase", fallen, 4}, {"resets", fallen, 1}, {"delta", fallen, math.Float64frombits(0xC005555555555555)},
		{"max_over_time", holes, 2}, {"min_over_time", holes, 1}, {"changes", holes, 3}, {"resets", holes, 0}, {"changes", even(nan, nan), 0},
		{"count_over_time", even(1), 1},
	} {
		checkCall(t, c.name, c.w, nil, c.want)
	}
	checkNone(t, "rate", even(1), nil)
	checkNone(t, "count_over_time", even(), nil)
	checkNone(t, "rate", rising, []float64{1})
	checkNone(t, "Rate", rising, nil)
	slope, _ := calc.Line(rising.Points, 15000)
	checkCall(t, "deriv", rising, nil, slope)
	if math.Abs(slope-1.0/15) > 1e-16 {
		t.Errorf("deriv = %v", slope)
	}
}

// wrongNames: texts that are no function's name: each name with a sign more or less at either end or with one changed, and others.
func wrongNames() []string {
	out := []string{"", " ", "_", "absent_over_time", "abs", "sum", "avg", "max", "over_time", "_over_time", "stddev", "timestamp", "time", "absent", "rate\x00", "\xff", strings.Repeat("rate", 1<<20)}
	for _, name := range sortedNames() {
		n := len(name)
		out = append(out, name[1:], name[:n-1], name+" ", " "+name, name+"s", "x"+name, name+name, name+"\x00", strings.ToUpper(name), strings.ToUpper(name[:1])+name[1:], name[:n-1]+strings.ToUpper(name[n-1:]))
		for i := range n {
			out = append(out, name[:i]+"-"+name[i+1:], name[:i]+name[i+1:])
		}
	}
	return slices.DeleteFunc(out, func(s string) bool { _, ok := names()[s]; return ok })
}

// P20.1: Known knows the 23 names, and they alone.
func TestKnown(t *testing.T) {
	for _, name := range sortedNames() {
		if !over.Known(name) {
			t.Errorf("%s isn't known", name)
		}
	}
	for _, name := range wrongNames() {
		if over.Known(name) {
			t.Errorf("%q is known", name)
		}
		for n := range 3 {
			checkNone(t, name, even(1, 2, 3), some(n))
		}
	}
	if n := len(names()); n != 23 {
		t.Errorf("%d names", n)
	}
}

// P20.1: of layer 14's functions those are known that take a matrix, all but the one that layer 24 answers, with as many numbers as layer 14 says.
func TestNamesOfQueries(t *testing.T) {
	for _, name := range check.Funcs() {
		sig, _ := check.Func(name)
		want := slices.Contains(sig.Args, api.ValMatrix) && name != "absent_over_time"
		if over.Known(name) != want {
			t.Errorf("Known(%q) = %v", name, !want)
		}
		if _, ok := over.Call(name, even(1, 2, 3), some(max(0, len(sig.Args)-1))); ok != want {
			t.Errorf("Call(%q) = %v", name, ok)
		}
	}
}

// P20.1: each function with every number of numbers: just so many as it takes are taken.
func TestNumbersOfNumbers(t *testing.T) {
	for name, a := range names() {
		for n := range 5 {
			if _, ok := over.Call(name, even(1, 2, 3, 4), some(n)); ok != (n == a.scalars) {
				t.Errorf("%s with %d numbers: %v", name, n, ok)
			}
			if n != a.scalars {
				checkNone(t, name, even(1, 2, 3, 4), some(n))
			}
		}
		many := make([]float64, 1<<16)
		checkNone(t, name, even(1, 2, 3, 4), many)
	}
}

// P20.1: windows of none, one, two and more points.
func TestNumbersOfPoints(t *testing.T) {
	for name, a := range names() {
		for n := range 6 {
			w := even([]float64{1, 2, 4, 8, 16}[:n]...)
			v, ok := over.Call(name, w, some(a.scalars))
			if ok != (n >= a.least) {
				t.Errorf("%s of %d points: %v", name, n, ok)
			}
			want, wantOK := wordsCall(name, w, some(a.scalars))
			verify(t, v, ok, want, wantOK, name, w)
		}
		checkNone(t, name, api.Window{}, some(a.scalars))
		checkNone(t, name, api.Window{Points: []api.Sample{}, From: -5, To: 5}, some(a.scalars))
	}
}

// values: lists of values at which functions come to their ends.
func values() [][]float64 {
	out := [][]float64{
		{5}, {0}, {minus}, {nan}, {inf}, {-inf}, {greatest}, {least},
		{0, minus}, {minus, 0}, {minus, minus}, {nan, nan}, {nan, nan, nan}, {1, nan}, {nan, 1}, {nan, nan, 1}, {1, nan, nan}, {nan, 1, nan}, {1, nan, 2}, {2, nan, 1}, {nan, 2, 1}, {nan, 1, 2}, {2, 1, nan}, {1, 2, nan}, {nan, 0, minus}, {nan, minus, 0}, {0, nan, minus}, {minus, nan, 0},
		{inf, inf}, {-inf, -inf}, {inf, -inf}, {-inf, inf}, {inf, 1}, {1, inf}, {-inf, 1}, {1, -inf}, {nan, inf}, {nan, -inf}, {inf, nan}, {-inf, nan}, {1, inf, 2}, {1, -inf, 2}, {inf, 1, 2}, {1, 2, inf},
		{greatest, -greatest}, {-greatest, greatest}, {greatest, greatest}, {greatest, greatest, greatest}, {least, -least}, {0, least}, {least, 0}, {-least, 0}, {1, 1 + 0x1p-52}, {1e308, 0, 1e308},
		{3, 3, 3}, {1, 2, 3}, {3, 2, 1}, {1, 3, 2}, {2, 1, 3}, {-1, -2, -3}, {-3, -2, -1}, {0, 0, 1}, {1, 1, 2, 2}, {5, 1, 5, 1}, {9, 4, 3, 8, 2}, {10, 20, 5, 10, 3, 4}, {0.1, 0.2, 0.3, 0.4}, {1e100, 1, -1e100}, {7, 0, 7, 0, 7},
	}
	return out
}

// P20.1: values of each sort, all functions, by the words.
func TestValues(t *testing.T) {
	for _, l := range values() {
		checkWords(t, even(l...), 0.5, 0.25)
		checkWords(t, even(l...), 0.9, 0.1)
	}
	few := []float64{0, minus, 1, -1, nan, inf, -inf, 3}
	for _, a := range few {
		for _, b := range few {
			for _, c := range few {
				checkWords(t, even(a, b, c), 0.25, 0.5)
			}
		}
	}
	for _, a := range special() {
		for _, b := range special() {
			checkWords(t, even(a, b), 0.75, 0.5)
		}
	}
}

// P20.1: the functions that answer a plain thing, each told by hand.
func TestPlainFunctions(t *testing.T) {
	l := []float64{4, 9, 9, 1, 7}
	for name, want := range map[string]float64{
		"count_over_time": 5, "present_over_time": 1, "first_over_time": 4, "last_over_time": 7, "sum_over_time": 30, "avg_over_time": 6, "stdvar_over_time": 9.6,
		"max_over_time": 9, "min_over_time": 1, "mad_over_time": 2, "changes": 3, "resets": 1, "idelta": 6, "irate": 0.4,
	} {
		checkCall(t, name, even(l...), nil, want)
	}
	checkCall(t, "stddev_over_time", even(2, 4, 4, 4, 5, 5, 7, 9), nil, 2)
	checkCall(t, "sum_over_time", even(1e100, 1, -1e100), nil, 1)
	checkCall(t, "avg_over_time", even(greatest, greatest), nil, greatest)
	checkCall(t, "present_over_time", even(nan, 0), nil, 1)
	checkCall(t, "count_over_time", even(nan, nan, nan), nil, 3)
	checkCall(t, "first_over_time", even(nan, 1), nil, nan)
	checkCall(t, "last_over_time", even(1, nan), nil, nan)
	checkCall(t, "first_over_time", even(minus, 1), nil, minus)
	checkCall(t, "last_over_time", even(1, minus), nil, minus)
}

// P20.1: max_over_time and min_over_time: NaNs ahead, behind and in the middle; of two noughts the first.
func TestMaxAndMin(t *testing.T) {
	for _, c := range []struct {
		l         []float64
		low, high float64
	}{
		{[]float64{3}, 3, 3}, {[]float64{nan}, nan, nan}, {[]float64{nan, nan, nan}, nan, nan},
		{[]float64{nan, 3, 1, 2}, 1, 3}, {[]float64{3, 1, 2, nan}, 1, 3}, {[]float64{3, nan, 1}, 1, 3}, {[]float64{1, nan, 3}, 1, 3}, {[]float64{nan, nan, 2, nan, 5, nan, 4}, 2, 5}, {[]float64{nan, -4}, -4, -4}, {[]float64{-4, nan}, -4, -4},
		{[]float64{0, minus}, 0, 0}, {[]float64{minus, 0}, minus, minus}, {[]float64{nan, minus, 0}, minus, minus}, {[]float64{-1, 0, minus}, -1, 0}, {[]float64{1, minus, 0}, minus, 1}, {[]float64{-1, minus, 0, 1}, -1, 1},
		{[]float64{inf, -inf}, -inf, inf}, {[]float64{-inf, nan, inf}, -inf, inf}, {[]float64{nan, inf}, inf, inf}, {[]float64{-inf, nan}, -inf, -inf}, {[]float64{greatest, inf}, greatest, inf}, {[]float64{least, 0, -least}, -least, least},
		{[]float64{1, 2, 3, 4, 5}, 1, 5}, {[]float64{5, 4, 3, 2, 1}, 1, 5},
	} {
		checkCall(t, "min_over_time", even(c.l...), nil, c.low)
		checkCall(t, "max_over_time", even(c.l...), nil, c.high)
	}
}

// P20.1: changes and resets: NaNs side by side and alone, noughts of either sign, infinite values.
func TestChangesAndResets(t *testing.T) {
	for _, c := range []struct {
		l               []float64
		changes, resets float64
	}{
		{[]float64{1}, 0, 0}, {[]float64{nan}, 0, 0}, {[]float64{1, 1, 1}, 0, 0}, {[]float64{1, 2, 1}, 2, 1}, {[]float64{3, 2, 1}, 2, 2}, {[]float64{1, 2, 3}, 2, 0},
		{[]float64{nan, nan, nan}, 0, 0}, {[]float64{1, nan, 1}, 2, 0}, {[]float64{1, nan, nan, 1}, 2, 0}, {[]float64{nan, 1}, 1, 0}, {[]float64{1, nan}, 1, 0}, {[]float64{nan, 1, nan, nan, 1, 1, nan}, 4, 0}, {[]float64{2, nan, 1}, 2, 0}, {[]float64{2, 1, nan, 0}, 3, 1},
		{[]float64{0, minus, 0}, 0, 0}, {[]float64{minus, 0}, 0, 0}, {[]float64{minus, 1, minus}, 2, 1}, {[]float64{least, 0, -least, minus}, 3, 2},
		{[]float64{inf, inf}, 0, 0}, {[]float64{inf, -inf}, 1, 1}, {[]float64{-inf, inf}, 1, 0}, {[]float64{inf, greatest}, 1, 1}, {[]float64{-inf, nan, -inf}, 2, 0}, {[]float64{5, 1, 5, 1, 5}, 4, 2}, {[]float64{-1, -2}, 1, 1},
		{[]float64{1, math.Nextafter(1, 2), 1}, 2, 1},
	} {
		checkCall(t, "changes", even(c.l...), nil, c.changes)
		checkCall(t, "resets", even(c.l...), nil, c.resets)
	}
}

// otherNaN: a NaN of other bits.
func otherNaN() float64 { return math.Float64frombits(0xFFF0000000000007) }

// P20.1 and Words: NaNs of whichever bits are alike.
func TestNansAreAlike(t *testing.T) {
	checkCall(t, "changes", even(nan, otherNaN(), nan), nil, 0)
	for _, l := range values() {
		other := slices.Clone(l)
		for i, v := range other {
			if v != v {
				other[i] = otherNaN()
			}
		}
		for name, a := range names() {
			want, wantOK := over.Call(name, even(l...), some(a.scalars))
			v, ok := over.Call(name, even(other...), some(a.scalars))
			verify(t, v, ok, want, wantOK, name, other)
		}
	}
}

// P20.1: quantile_over_time: numbers from 0 to 1, below, above, NaN.
func TestQuantile(t *testing.T) {
	w := even(4, 1, 3, 2)
	for _, c := range [][2]float64{
		{0, 1}, {minus, 1}, {1, 4}, {0.5, 2.5}, {0.25, 1.75}, {0.75, 3.25}, {-least, -inf}, {-1, -inf}, {-inf, -inf}, {math.Nextafter(1, 2), inf}, {2, inf}, {inf, inf}, {nan, nan},
	} {
		checkCall(t, "quantile_over_time", w, []float64{c[0]}, c[1])
	}
	for _, l := range values() {
		for _, q := range append(special(), 0.25, 0.3, 0.9) {
			checkCall(t, "quantile_over_time", even(l...), []float64{q}, calc.Quantile(q, l))
		}
	}
}

// P20.1: mad_over_time: the median of the distances from the median, of odd and even numbers of points.
func TestMad(t *testing.T) {
	for _, c := range []struct {
		l    []float64
		want float64
	}{
		{[]float64{7}, 0}, {[]float64{minus}, 0}, {[]float64{1, 2}, 0.5}, {[]float64{1, 2, 10}, 1}, {[]float64{10, 2, 1}, 1}, {[]float64{4, 6, 2, 1, 999}, 2}, {[]float64{-1, -5, -9}, 4}, {[]float64{1, 2, 4, 8}, 1.5},
		{[]float64{nan}, nan}, {[]float64{inf}, nan}, {[]float64{1, 2, inf}, 1}, {[]float64{-inf, 1, 2}, 1}, {[]float64{nan, 1, 2}, 0}, {[]float64{inf, inf}, nan}, {[]float64{-inf, inf}, nan}, {[]float64{greatest, -greatest, 0}, greatest},
	} {
		checkCall(t, "mad_over_time", even(c.l...), nil, c.want)
	}
}

// P20.1: deriv and predict_linear: the line through the points; where it stands is told from Now on.
func TestLines(t *testing.T) {
	up := window(0, 5000, 3000, 1000, 1, 2000, 3, 3000, 5)
	checkCall(t, "deriv", up, nil, 2)
	for _, c := range []struct {
		now     int64
		seconds float64
		want    float64
	}{{3000, 0, 5}, {3000, 10, 25}, {3000, -1, 3}, {1000, 0, 1}, {1000, 0.5, 2}, {0, 0, -1}, {-1000, 2, 1}, {5000, 0, 9}, {3000, inf, inf}, {3000, -inf, -inf}, {3000, nan, nan}, {3000, minus, 5}} {
		up.Now = c.now
		checkCall(t, "predict_linear", up, []float64{c.seconds}, c.want)
	}
	level := even(7, 7, 7)
	checkCall(t, "deriv", level, nil, 0)
	checkCall(t, "predict_linear", level, []float64{1e9}, 7)
	checkCall(t, "predict_linear", level, []float64{inf}, nan)
	checkCall(t, "deriv", even(inf, inf), nil, nan)
	checkCall(t, "predict_linear", even(inf, inf), []float64{0}, nan)
	checkCall(t, "deriv", even(nan, nan), nil, nan)
	checkCall(t, "deriv", even(3, 1), nil, -2.0/15)
	checkNone(t, "deriv", even(7), nil)
	checkNone(t, "predict_linear", even(7), []float64{0})
	for _, l := range values() {
		for _, seconds := range special() {
			w := even(l...)
			w.Now = -70001
			v, ok := over.Call("predict_linear", w, []float64{seconds})
			want, wantOK := wordsCall("predict_linear", w, []float64{seconds})
			verify(t, v, ok, want, wantOK, "predict_linear", w, seconds)
		}
	}
}

// P20.1 and rule 7: value + slope * seconds is a rounded product and a rounded sum: fused they would be told apart here.
func TestPredictionIsNotFused(t *testing.T) {
	c := newChance(1)
	apart := 0
	for range 500 {
		w := c.window(6)
		seconds := c.dice.NormFloat64() * 1000
		v, ok := over.Call("predict_linear", w, []float64{seconds})
		want, wantOK := wordsCall("predict_linear", w, []float64{seconds})
		verify(t, v, ok, want, wantOK, "predict_linear", w, seconds)
		if slope, value := calc.Line(w.Points, w.Now); wantOK && !same(math.FMA(slope, seconds, value), want) {
			apart++
		}
	}
	if apart == 0 {
		t.Error("no line was asked of which a fused answer is another")
	}
}

// P20.1: double_exponential_smoothing: factors inside 0 and 1, at the ends and outside; which is which.
func TestSmoothing(t *testing.T) {
	checkCall(t, "double_exponential_smoothing", even(1, 2, 4), []float64{0.5, 0.5}, 3.5)
	checkCall(t, "double_exponential_smoothing", even(1, 2), []float64{0.5, 0.25}, 2)
	checkNone(t, "double_exponential_smoothing", even(1), []float64{0.5, 0.5})
	l := []float64{1, 5, 2, 8}
	one, other := calc.Smooth(l, 0.25, 0.75), calc.Smooth(l, 0.75, 0.25)
	checkCall(t, "double_exponential_smoothing", even(l...), []float64{0.25, 0.75}, one)
	checkCall(t, "double_exponential_smoothing", even(l...), []float64{0.75, 0.25}, other)
	if one == other {
		t.Error("the two factors can't be told apart")
	}
	for _, sf := range append(special(), 0.25, 0.9) {
		for _, tf := range append(special(), 0.25, 0.9) {
			want := nan
			if sf > 0 && sf < 1 && tf > 0 && tf < 1 {
				want = calc.Smooth(l, sf, tf)
			}
			checkCall(t, "double_exponential_smoothing", even(l...), []float64{sf, tf}, want)
		}
	}
}

// P20.1: beat_over_time: a period of seconds cut off to whole milliseconds; NaN for one that is none, that ToInt refuses, or that is too long.
func TestBeat(t *testing.T) {
	swing := window(-1, 12000, 0, 0, 1, 4000, -1, 8000, 1, 12000, -1)
	beat := func(period int64) float64 { return calc.Beat(swing.Points, period) }
	for _, c := range [][2]float64{
		{8, 1}, {16, 0}, {8.0009, 1}, {4, 0}, {7.9999999999999999, 1}, {0.001, 0},
		{0, nan}, {minus, nan}, {0.0009, nan}, {-8, nan}, {-0.001, nan}, {nan, nan}, {inf, nan}, {-inf, nan}, {greatest, nan}, {-greatest, nan}, {least, nan},
		{9223372036854775.807, nan}, {9223372036854776, nan}, {1e16, nan}, {-9223372036854776, nan}, {-1e16, nan}, {1e300, nan},
		{1e20, nan}, {-1e20, nan}, {18446744073709559.616, nan}, {18446744073709560, nan},
		{api.MaxDur / 1000, beat(api.MaxDur)}, {api.MaxDur/1000 + 0.5, nan}, {api.MaxDur/1000 + 1, nan}, {api.MaxDur/1000 - 1, beat(api.MaxDur - 1000)},
		{7.5, beat(7500)}, {7.9999, beat(7999)}, {8.001, 1}, {8.0011, beat(8001)}, {0.0019, beat(1)}, {3.3339, beat(3333)},
	} {
		checkCall(t, "beat_over_time", swing, []float64{c[0]}, c[1])
	}
	if same(beat(8001), beat(8000)) {
		t.Error("the periods can't be told apart")
	}
	checkCall(t, "beat_over_time", even(-5), []float64{1}, 5)
	checkCall(t, "beat_over_time", even(inf), []float64{1}, nan)
	for _, arg := range special() {
		checkCall(t, "beat_over_time", swing, []float64{arg}, wordsTable("beat_over_time", swing, []float64{arg}))
	}
}

// P20.1: windows, values and numbers by chance, all functions by the words.
func TestByWords(t *testing.T) {
	c := newChance(2)
	for range 6000 {
		checkWords(t, c.window(8), c.numbers()...)
	}
	for range 100 {
		checkWords(t, c.window(300), c.numbers()...)
	}
}

package calc_test

import (
	"math"
	"slices"
	"strconv"
	"strings"
	"sync"
	"testing"

	"weir/api"
	"weir/calc"
)

// A question asks one call about lists of its own three kinds; what it is told is written out, number by number.
type question struct {
	name string
	ask  func(l []float64, ss []api.Sample, bs []api.Bucket) []float64
}

// questions: each call that takes a list.
func questions() []question {
	type lists struct {
		l  []float64
		ss []api.Sample
		bs []api.Bucket
	}
	one := func(name string, f func(x lists) float64) question {
		return question{name, func(l []float64, ss []api.Sample, bs []api.Bucket) []float64 {
			return []float64{f(lists{l, ss, bs})}
		}}
	}
	return []question{
		one("Sum", func(x lists) float64 { return calc.Sum(x.l) }),
		one("Mean", func(x lists) float64 { return calc.Mean(x.l) }),
		one("Variance", func(x lists) float64 { return calc.Variance(x.l) }),
		one("Spread", func(x lists) float64 { return calc.Spread(x.l) }),
		one("Quantile", func(x lists) float64 { return calc.Quantile(0.7, x.l) }),
		one("Smooth", func(x lists) float64 { return calc.Smooth(x.l, 0.3, 0.6) }),
		one("Beat", func(x lists) float64 { return calc.Beat(x.ss, 8000) }),
		one("Buckets", func(x lists) float64 { return calc.Buckets(0.7, x.bs) }),
		{"Line", func(_ []float64, ss []api.Sample, _ []api.Bucket) []float64 {
			slope, value := calc.Line(ss, 5000)
			return []float64{slope, value}
		}},
		{"Turn", func(_ []float64, ss []api.Sample, _ []api.Bucket) []float64 {
			c := calc.Turn(ss, 8000)
			return []float64{real(c), imag(c)}
		}},
	}
}

// sameAll: are two lists alike, number by number?
func sameAll(a, b []float64) bool {
	return slices.EqualFunc(a, b, same)
}

// bucketed: the numbers of a list as buckets, the last one's bound +Inf.
func bucketed(l []float64) []api.Bucket {
	var out []api.Bucket
	for i, v := range l {
		out = append(out, api.Bucket{Upper: v, Count: math.Abs(l[len(l)-1-i])})
	}
	return append(out, api.Bucket{Upper: inf, Count: 100})
}

// P1, rule 1: no call panics, and each ends, whatever it is given.
func TestTotal(t *testing.T) {
	all := special()
	for _, x := range all {
		calc.Exp(x)
		calc.Ln(x)
		calc.Log2(x)
		calc.Log10(x)
		for _, y := range all {
			calc.Pow(x, y)
			calc.Mod(x, y)
			calc.Round(x, y)
			calc.Smooth(all, x, y)
			calc.Quantile(x, []float64{x, y})
			calc.Buckets(x, []api.Bucket{{Upper: x, Count: y}, {Upper: y, Count: x}, {Upper: inf, Count: y}})
			calc.Buckets(x, []api.Bucket{{Upper: y, Count: x}})
		}
	}
	r := someRand()
	ends := []int64{math.MinInt64, math.MinInt64 + 1, -1, 0, 1, api.MaxDur, api.MaxDur + 1, math.MaxInt64 - 1, math.MaxInt64}
	for _, l := range lists() {
		ss := sampled(r, l)
		for _, n := range ends {
			calc.Line(ss, n)
			calc.Turn(ss, n)
			calc.Beat(ss, n)
		}
		for _, q := range questions() {
			q.ask(l, ss, bucketed(l))
			q.ask(l, ss, bucketed(l)[:len(l)])
		}
	}
}

// P1, rule 1: long lists come to an end too: rising, falling, all alike, in no order.
func TestLongLists(t *testing.T) {
	const n = 100000
	r := someRand()
	for _, next := range []func(i int) float64{
		func(i int) float64 { return float64(i) },
		func(i int) float64 { return float64(-i) },
		func(int) float64 { return 7 },
		func(int) float64 { return nan },
		func(int) float64 { return r.NormFloat64() },
	} {
		var l []float64
		for i := range n {
			l = append(l, next(i))
		}
		ss, bs := sampled(r, l), bucketed(l)
		for _, q := range questions() {
			q.ask(l, ss, bs)
		}
	}
}

// P1, rule 4: nil and the empty list are one and the same.
func TestNilIsEmpty(t *testing.T) {
	for _, q := range questions() {
		one := q.ask(nil, nil, nil)
		two := q.ask([]float64{}, []api.Sample{}, []api.Bucket{})
		three := q.ask(make([]float64, 0, 9), make([]api.Sample, 0, 9), make([]api.Bucket, 0, 9))
		if !sameAll(one, two) || !sameAll(one, three) {
			t.Errorf("%s of nil and of empty lists: %v, %v, %v", q.name, one, two, three)
		}
	}
}

const marks = 40 // how many marks the room behind a list holds

// roomy: a list with room behind it that holds marks, and the whole of that memory.
func roomy[T any](l []T, mark T) (list, whole []T) {
	whole = slices.Clone(l)
	for range marks {
		whole = append(whole, mark)
	}
	return whole[:len(l)], whole
}

// P1, rule 5: what is handed in stays as it is, the room behind it too; and what that room holds counts for nothing.
func TestListsStayAsTheyAre(t *testing.T) {
	r := someRand()
	markS, markB := api.Sample{T: -7, V: 1e9, Stale: true}, api.Bucket{Upper: -99, Count: 1e9}
	for _, plain := range lists() {
		samples, bs := sampled(r, plain), bucketed(plain)
		for _, q := range questions() {
			want := q.ask(slices.Clone(plain), slices.Clone(samples), slices.Clone(bs))
			l, wholeL := roomy(plain, -99)
			s, wholeS := roomy(samples, markS)
			b, wholeB := roomy(bs, markB)
			if got := q.ask(l, s, b); !sameAll(got, want) {
				t.Errorf("%s of lists with room: %v, without %v", q.name, got, want)
			}
			_, beforeL := roomy(plain, -99)
			_, beforeS := roomy(samples, markS)
			_, beforeB := roomy(bs, markB)
			if !sameAll(wholeL, beforeL) || !slices.EqualFunc(wholeS, beforeS, sameSample) || !slices.EqualFunc(wholeB, beforeB, sameBucket) {
				t.Errorf("%s has changed a list of %d or the room behind it", q.name, len(plain))
			}
		}
	}
}

func sameSample(a, b api.Sample) bool {
	return a.T == b.T && a.Stale == b.Stale && same(a.V, b.V)
}

func sameBucket(a, b api.Bucket) bool {
	return same(a.Upper, b.Upper) && same(a.Count, b.Count)
}

// P1, rules 5 and 6: nothing that is handed in is kept: a list that the caller changes after the call is asked anew, and is answered as one that was never asked before.
func TestListsAreNotKept(t *testing.T) {
	r := someRand()
	all := lists()
	for i, plain := range all {
		other := all[len(all)-1-i]
		n := min(len(plain), len(other))
		l, s, b := slices.Clone(plain[:n]), sampled(r, plain[:n]), bucketed(plain[:n])
		newL, newS, newB := slices.Clone(other[:n]), sampled(r, other[:n]), bucketed(other[:n])
		for _, q := range questions() {
			list, samples, bs := slices.Clone(l), slices.Clone(s), slices.Clone(b)
			first := q.ask(list, samples, bs)
			copy(list, newL)
			copy(samples, newS)
			copy(bs, newB)
			if got, want := q.ask(list, samples, bs), q.ask(newL, newS, newB); !sameAll(got, want) {
				t.Errorf("%s of a changed list: %v, want %v", q.name, got, want)
			}
			if got := q.ask(l, s, b); !sameAll(got, first) {
				t.Errorf("%s of the first list again: %v, want %v", q.name, got, first)
			}
		}
	}
}

// P1, rule 7, and Words: a NaN's bits count for nothing.
func TestNansAreAlike(t *testing.T) {
	for _, bits := range []uint64{0x7FF0000000000001, 0x7FFFFFFFFFFFFFFF, 0xFFF8000000000000, 0xFFF0000000000001} {
		other := math.Float64frombits(bits)
		for _, l := range [][]float64{{nan}, {nan, 1}, {3, nan, 1}, {1, 2, nan, 0}} {
			twin := mapped(l, func(v float64) float64 {
				if v != v {
					return other
				}
				return v
			})
			for _, q := range questions() {
				got, want := q.ask(twin, points(0, 1, 9, other), bucketed(twin)), q.ask(l, points(0, 1, 9, nan), bucketed(l))
				if !sameAll(got, want) {
					t.Errorf("%s of two NaNs: %v, %v", q.name, got, want)
				}
			}
		}
	}
}

// P2 and rule 6: the same arguments give the same answers, whoever asks beside and whatever was asked ahead.
func TestNothingIsKept(t *testing.T) {
	r := someRand()
	var samples [][]api.Sample
	all := lists()
	for _, l := range all {
		samples = append(samples, sampled(r, l))
	}
	ask := func() string {
		var b strings.Builder
		tell := func(v float64) {
			if v == v {
				b.WriteString(strconv.FormatUint(math.Float64bits(v), 16))
			}
			b.WriteByte(' ')
		}
		for _, x := range special() {
			for _, v := range []float64{calc.Exp(x), calc.Ln(x), calc.Log2(x), calc.Log10(x), calc.Pow(x, 2.5), calc.Pow(2.5, x), calc.Mod(x, 3), calc.Round(x, 0.1)} {
				tell(v)
			}
		}
		for i, l := range all {
			for _, q := range questions() {
				for _, v := range q.ask(l, samples[i], bucketed(l)) {
					tell(v)
				}
			}
		}
		return b.String()
	}
	want := ask()
	var wait sync.WaitGroup
	for range 4 {
		wait.Go(func() {
			if ask() != want {
				t.Error("the same questions were answered in two ways")
			}
		})
	}
	wait.Wait()
}

package calc_test

import (
	"math"
	"testing"

	"weir/api"
	"weir/calc"
)

// buckets: buckets from uppers and counts by turns.
func buckets(uc ...float64) []api.Bucket {
	var out []api.Bucket
	for i := 0; i < len(uc); i += 2 {
		out = append(out, api.Bucket{Upper: uc[i], Count: uc[i+1]})
	}
	return out
}

func checkBuckets(t *testing.T, q float64, bs []api.Bucket, want float64) {
	t.Helper()
	check(t, calc.Buckets(q, bs), want, "Buckets", q, bs)
}

// P6.15: the chapter's examples, in any order of the list; q at its ends and outside.
func TestBucketsExamples(t *testing.T) {
	for _, bs := range [][]api.Bucket{buckets(2, 4, 4, 8, inf, 10), buckets(inf, 10, 2, 4, 4, 8), buckets(4, 8, inf, 10, 2, 4), buckets(4, 8, nan, 99, 2, 4, nan, 1, inf, 10)} {
		for _, c := range [][2]float64{
			{0.5, 2.5}, {0.2, 1}, {0.9, 4}, {0, 0}, {minus, 0}, {1, 4}, {0.4, 2}, {0.8, 4}, {0.6, 3}, {math.Nextafter(0.8, 1), 4},
			{nan, nan}, {-1, -inf}, {-least, -inf}, {-inf, -inf}, {2, inf}, {math.Nextafter(1, 2), inf}, {inf, inf},
		} {
			checkBuckets(t, c[0], bs, c[1])
		}
	}
	for _, c := range [][2]float64{{nan, nan}, {-1, -inf}, {2, inf}, {0.5, nan}, {0, nan}, {1, nan}} {
		checkBuckets(t, c[0], nil, c[1])
		checkBuckets(t, c[0], []api.Bucket{}, c[1])
		checkBuckets(t, c[0], buckets(1, 1), c[1])
	}
}

// P6.15, 1 to 3: Uppers that are NaN, equal, out of order, too few, without +Inf at the end.
func TestBucketsUppers(t *testing.T) {
	for _, c := range []struct {
		bs   []api.Bucket
		want float64
	}{
		{buckets(inf, 8), nan},
		{buckets(inf, 8, inf, 8), nan},
		{buckets(nan, 8, inf, 8), nan},
		{buckets(nan, 8, nan, 8), nan},
		{buckets(2, 4, 4, 8), nan},
		{buckets(-inf, 4, 4, 8), nan},
		{buckets(2, 4, greatest, 8), nan},
		{buckets(2, 2, 2, 2, inf, 8), 2},
		{buckets(2, 4, inf, 4, inf, 4), 2},
		{buckets(2, 1e100, inf, 1, 2, 1, 2, -1e100), 2},
		{buckets(2, 1, inf, 4, 2, 1e100, 2, -1e100), 2},
		{buckets(0, 4, minus, 4, inf, 8), 0},
		{buckets(minus, 4, 0, 4, inf, 8), minus},
		{buckets(minus, 4, inf, 8, 0, 4), minus},
		{buckets(-inf, 4, inf, 8), -inf},
		{buckets(-inf, 2, 4, 8, inf, 8), nan},
		{buckets(4, 8, 2, 4, inf, 8), 2},
		{buckets(4, 8, inf, 8, 4, nan), 4},
	} {
		checkBuckets(t, 0.5, c.bs, c.want)
	}
	checkBuckets(t, 0.25, buckets(minus, 0, 4, 8, 0, 0, inf, 8), 1)
}

// P6.15, 4: Counts that fall are lifted to the greatest ahead of them, and NaN is neither lifted nor greatest.
func TestBucketsCounts(t *testing.T) {
	for _, c := range []struct {
		q    float64
		bs   []api.Bucket
		want float64
	}{
		{0.5, buckets(2, 8, 4, 4, inf, 8), 1},
		{0.5, buckets(2, 8, 4, 4, inf, 2), 1},
		{0.5, buckets(2, 0, 4, 8, 6, 4, 8, 6, inf, 2), 3},
		{1, buckets(2, 0, 4, 8, 6, 4, 8, 16, inf, 2), 8},
		{0.75, buckets(2, 0, 4, 8, 6, 4, 8, 16, inf, 2), 7},
		{0.5, buckets(1, 0, inf, 0), nan},
		{0.5, buckets(1, -5, inf, -1), nan},
		{0.5, buckets(1, minus, inf, 0), nan},
		{0.5, buckets(1, 3, inf, nan), nan},
		{0.5, buckets(1, nan, inf, 3), 1},
		{0.5, buckets(1, nan, 2, 2, inf, 3), nan},
		{0.5, buckets(1, 2, 2, nan, 3, 1, 4, 4, inf, 8), 4},
		{0.5, buckets(1, 2, 2, nan, 3, 1, 4, 6, inf, 8), 3.5},
		{0.5, buckets(2, -4, 4, 8, inf, 8), 3.333333333333333},
		{0, buckets(2, -4, 4, 8, inf, 8), 2.6666666666666665},
		{0, buckets(2, 0, 4, 8, inf, 8), nan},
		{0.5, buckets(2, 1, inf, inf), 2},
		{0, buckets(2, 1, inf, inf), 2},
		{0.5, buckets(2, inf, inf, inf), nan},
		{1, buckets(2, 3, inf, 3), 2},
		{1, buckets(2, 3, 4, 3, inf, 3), 2},
		{1, buckets(2, 3, 4, 3, inf, 4), 4},
		{0, buckets(-3, 3, inf, 4), -3},
		{1, buckets(-3, 3, -2, 3.5, inf, 4), -2},
		{0.75, buckets(-3, 3, -1, 5, inf, 6), -1.5},
		{0.5, buckets(-1, 2, inf, 8), -1},
		{0.1, buckets(-1, 2, inf, 8), -1},
		{0.5, buckets(0, 4, inf, 8), 0},
		{0.5, buckets(least, 8, inf, 8), 0},
		{0.5, buckets(greatest, 8, inf, 8), greatest / 2},
		{0.5, buckets(-greatest, 0, greatest, 8, inf, 8), inf},
		{0.5, buckets(1, least, inf, 2*least), 1},
	} {
		checkBuckets(t, c.q, c.bs, c.want)
	}
}

// P6.15: by its words: few bounds and many, special numbers among bounds and counts.
func TestBucketsByWords(t *testing.T) {
	r := someRand()
	all := special()
	bounds := []float64{-1, minus, 0, 0.5, 1, 1, 2, 5, nan, inf, -inf}
	for range 6000 {
		var bs []api.Bucket
		form := r.IntN(4)
		count := 0.0
		for range r.IntN(12) {
			b := api.Bucket{Upper: bounds[r.IntN(len(bounds))], Count: float64(r.IntN(12) - 2)}
			count += float64(r.IntN(5))
			switch form {
			case 1:
				b = api.Bucket{Upper: r.NormFloat64(), Count: r.NormFloat64() * 10}
			case 2:
				b = api.Bucket{Upper: all[r.IntN(len(all))], Count: all[r.IntN(len(all))]}
			case 3:
				b = api.Bucket{Upper: count * 0.1, Count: count}
			}
			bs = append(bs, b)
		}
		if r.IntN(8) > 0 {
			bs = append(bs, api.Bucket{Upper: inf, Count: count + float64(r.IntN(3))})
		}
		r.Shuffle(len(bs), func(i, j int) { bs[i], bs[j] = bs[j], bs[i] })
		for _, q := range []float64{0, 1, 0.5, 0.25, 0.9, r.Float64(), r.Float64(), all[r.IntN(len(all))]} {
			checkBuckets(t, q, bs, wordsBuckets(q, bs))
		}
	}
}

// P6.15, 1 and 2: in a long list too the counts of one Upper are added in the order of the list, and the first of +0 and -0 is the bound.
func TestBucketsOfLongLists(t *testing.T) {
	r := someRand()
	bounds := []float64{0, minus, 1, 2, inf, nan, -1}
	for range 300 {
		var bs []api.Bucket
		for range 20 + r.IntN(80) {
			bs = append(bs, api.Bucket{Upper: bounds[r.IntN(len(bounds))], Count: r.Float64() * math.Exp2(float64(r.IntN(60)))})
		}
		bs = append(bs, api.Bucket{Upper: inf, Count: 0x1p70})
		for _, q := range []float64{0, 1, 0.0001, 0.001, 0.01, 0.1, 0.5, r.Float64()} {
			checkBuckets(t, q, bs, wordsBuckets(q, bs))
		}
	}
}

package calc_test

import (
	"math"
	"math/big"
	"math/rand/v2"
	"slices"
	"testing"

	"weir/api"
)

// The chapter's words, written down a second time and in another way, to hold the package against: each operation is reckoned with numbers without an end and then rounded, by itself.

var (
	nan, inf, minus = math.NaN(), math.Inf(1), math.Copysign(0, -1)
	greatest, least = math.MaxFloat64, math.SmallestNonzeroFloat64

	lnHi    = math.Float64frombits(0x3FE62E42FEF00000)
	lnLo    = math.Float64frombits(0x3DD473DE6AF278ED)
	invLn2  = math.Float64frombits(0x3FF71547652B82FE)
	invLn10 = math.Float64frombits(0x3FDBCB7B1526E50E)
	half    = math.Float64frombits(0x3FE6A09E667F3BCD)
	expTop  = math.Float64frombits(0x40862E42FEFA39EF)
	expLow  = math.Float64frombits(0xC0874910D52D3052)
)

// same: are two numbers alike?
func same(a, b float64) bool {
	return a != a && b != b || math.Float64bits(a) == math.Float64bits(b)
}

// check: what was answered is alike to what is wanted.
func check(t *testing.T, got, want float64, call string, args ...any) {
	t.Helper()
	if !same(got, want) {
		t.Errorf("%s%v = %v (%016X), want %v (%016X)", call, args, got, math.Float64bits(got), want, math.Float64bits(want))
	}
}

func finite(v float64) bool {
	return !math.IsNaN(v) && !math.IsInf(v, 0)
}

func rat(v float64) *big.Rat {
	return new(big.Rat).SetFloat64(v)
}

// nearest: the float nearest to an exact number other than 0.
func nearest(exact *big.Rat) float64 {
	v, _ := exact.Float64()
	return v
}

// add, sub, mul, div: one operation, rounded by itself. Where there is no exact number (or it is 0, of which the sign is wanted), the machine's own operation answers.
func add(a, b float64) float64 {
	if !finite(a) || !finite(b) || a == -b {
		return a + b
	}
	return nearest(new(big.Rat).Add(rat(a), rat(b)))
}

func sub(a, b float64) float64 {
	return add(a, -b)
}

func mul(a, b float64) float64 {
	if !finite(a) || !finite(b) || a == 0 || b == 0 {
		return a * b
	}
	return nearest(new(big.Rat).Mul(rat(a), rat(b)))
}

func div(a, b float64) float64 {
	if !finite(a) || !finite(b) || a == 0 || b == 0 {
		return a / b
	}
	return nearest(new(big.Rat).Quo(rat(a), rat(b)))
}

// wordsExp: P6.1.
func wordsExp(x float64) float64 {
	if x != x {
		return nan
	}
	if x > expTop {
		return inf
	}
	if x < expLow {
		return 0
	}
	k := math.Floor(add(mul(x, invLn2), 0.5))
	r := sub(sub(x, mul(k, lnHi)), mul(k, lnLo))
	s := 1.0
	for i := 14.0; i >= 1; i-- {
		s = add(1, div(mul(r, s), i))
	}
	power := new(big.Rat).SetInt(new(big.Int).Lsh(big.NewInt(1), uint(math.Abs(k))))
	if k < 0 {
		power.Inv(power)
	}
	return nearest(power.Mul(power, rat(s)))
}

// wordsParts: P6.2, the pair.
func wordsParts(x float64) (m, e float64) {
	f, power := math.Frexp(x)
	for f < half {
		f, power = f*2, power-1
	}
	for f >= 2*half {
		f, power = f/2, power+1
	}
	return f, float64(power)
}

// wordsSeries: P6.2, L(m).
func wordsSeries(m float64) float64 {
	t := sub(m, 1)
	s := div(t, add(2, t))
	z := mul(s, s)
	p := 0.0
	for i := 12.0; i >= 1; i-- {
		p = mul(z, add(div(1, 2*i+1), p))
	}
	w := mul(2, s)
	return add(w, mul(w, p))
}

// wordsLogs: P6.3, the three logarithms.
func wordsLogs(x float64) (ln, log2, log10 float64) {
	if x != x || x < 0 {
		return nan, nan, nan
	}
	if x == 0 {
		return -inf, -inf, -inf
	}
	if x == inf {
		return inf, inf, inf
	}
	m, e := wordsParts(x)
	l := wordsSeries(m)
	ln = add(mul(e, lnHi), add(l, mul(e, lnLo)))
	return ln, add(e, mul(l, invLn2)), mul(ln, invLn10)
}

func wordsWhole(v float64) bool {
	return finite(v) && math.Floor(v) == v
}

func wordsOdd(v float64) bool {
	if !wordsWhole(v) || math.Abs(v) >= 1<<53 {
		return false
	}
	n, _ := new(big.Float).SetFloat64(v).Int(nil)
	return n.Bit(0) == 1
}

// wordsPow: P6.4, and which of its cases it was.
func wordsPow(x, y float64) (float64, int) {
	size := math.Abs(x)
	pick := func(up bool, yes, no float64) float64 {
		if up {
			return yes
		}
		return no
	}
	if y == 0 || x == 1 {
		return 1, 1
	}
	if x != x || y != y {
		return nan, 2
	}
	if math.IsInf(y, 0) {
		if x == -1 {
			return 1, 3
		}
		return pick(size > 1 && y == inf || size < 1 && y == -inf, inf, 0), 3
	}
	if x == 0 {
		if wordsOdd(y) {
			return pick(y < 0, math.Copysign(inf, x), x), 4
		}
		return pick(y < 0, inf, 0), 4
	}
	if x == inf {
		return pick(y > 0, inf, 0), 5
	}
	if x == -inf {
		if wordsOdd(y) {
			return pick(y > 0, -inf, minus), 5
		}
		return pick(y > 0, inf, 0), 5
	}
	if wordsWhole(y) && math.Abs(y) <= 1024 {
		r := wordsSquaring(x, 1, uint(math.Abs(y)))
		return pick(y > 0, r, div(1, r)), 6
	}
	if x < 0 && !wordsWhole(y) {
		return nan, 7
	}
	ln, _, _ := wordsLogs(size)
	v := wordsExp(mul(y, ln))
	return pick(x < 0 && wordsOdd(y), -v, v), 8
}

// wordsSquaring: the loop of P6.4, case 6, as calls of itself.
func wordsSquaring(a, r float64, n uint) float64 {
	if n&1 == 1 {
		r = mul(r, a)
	}
	if n>>1 == 0 {
		return r
	}
	return wordsSquaring(mul(a, a), r, n>>1)
}

// wordsMod: P6.5, by whole numbers without an end.
func wordsMod(x, y float64) float64 {
	if !finite(x) || y != y || y == 0 {
		return nan
	}
	if math.IsInf(y, 0) {
		return x
	}
	ratio := new(big.Rat).Quo(rat(x), rat(y))
	n := new(big.Int).Quo(ratio.Num(), ratio.Denom()) // cut off towards 0
	rest := new(big.Rat).Sub(rat(x), new(big.Rat).Mul(new(big.Rat).SetInt(n), rat(y)))
	if rest.Sign() == 0 {
		return math.Copysign(0, x)
	}
	return nearest(rest)
}

// wordsRound: P6.6.
func wordsRound(x, to float64) float64 {
	v := div(1, to)
	return div(math.Floor(add(mul(x, v), 0.5)), v)
}

// wordsSum: P6.7.
func wordsSum(l []float64) float64 {
	s, c := 0.0, 0.0
	for _, v := range l {
		t := add(s, v)
		if math.IsInf(t, 0) {
			c = 0
		} else if math.Abs(s) >= math.Abs(v) {
			c = add(c, add(sub(s, t), v))
		} else {
			c = add(c, add(sub(v, t), s))
		}
		s = t
	}
	return add(s, c)
}

// wordsMean: P6.8.
func wordsMean(l []float64) float64 {
	if len(l) == 0 {
		return nan
	}
	n, s := float64(len(l)), wordsSum(l)
	if math.IsInf(s, 0) && !slices.Contains(l, inf) && !slices.Contains(l, -inf) {
		return wordsSum(mapped(l, func(v float64) float64 { return div(v, n) }))
	}
	return div(s, n)
}

func mapped(l []float64, f func(float64) float64) []float64 {
	var out []float64
	for _, v := range l {
		out = append(out, f(v))
	}
	return out
}

// wordsVariance: P6.9.
func wordsVariance(l []float64) float64 {
	if len(l) == 0 {
		return nan
	}
	m := wordsMean(l)
	squares := mapped(l, func(v float64) float64 { return mul(sub(v, m), sub(v, m)) })
	return div(wordsSum(squares), float64(len(l)))
}

// ahead: does a stand ahead of b where numbers are sorted?
func ahead(a, b float64) bool {
	return a < b || a != a && b == b
}

// wordsQuantile: P6.10. Each number is put in its place, behind those that are no greater.
func wordsQuantile(q float64, l []float64) float64 {
	if len(l) == 0 || q != q {
		return nan
	}
	if q < 0 {
		return -inf
	}
	if q > 1 {
		return inf
	}
	var sorted []float64
	for _, v := range l {
		at := len(sorted)
		for at > 0 && ahead(v, sorted[at-1]) {
			at--
		}
		sorted = slices.Insert(sorted, at, v)
	}
	end := float64(len(l) - 1)
	rank := mul(q, end)
	a := math.Floor(rank)
	b := a + 1
	if b > end {
		b = end
	}
	w := sub(rank, a)
	if w == 0 {
		return sorted[int(a)]
	}
	return add(mul(sorted[int(a)], sub(1, w)), mul(sorted[int(b)], w))
}

// apart: a less b, which wraps round.
func apart(a, b int64) int64 {
	return int64(uint64(a) - uint64(b))
}

// wordsLine: P6.11.
func wordsLine(ss []api.Sample, at int64) (slope, value float64) {
	if len(ss) == 0 {
		return nan, nan
	}
	different := slices.ContainsFunc(ss[1:], func(s api.Sample) bool { return !(s.V == ss[0].V) })
	if !different && math.IsInf(ss[0].V, 0) {
		return nan, nan
	}
	if !different {
		return 0, ss[0].V
	}
	sumOf := func(f func(x, y float64) float64) float64 {
		var l []float64
		for _, s := range ss {
			l = append(l, f(div(float64(apart(s.T, at)), 1000), s.V))
		}
		return wordsSum(l)
	}
	n := float64(len(ss))
	x := sumOf(func(x, y float64) float64 { return x })
	y := sumOf(func(x, y float64) float64 { return y })
	xy := sumOf(mul)
	xx := sumOf(func(x, y float64) float64 { return mul(x, x) })
	c := sub(xy, div(mul(x, y), n))
	d := sub(xx, div(mul(x, x), n))
	slope = div(c, d)
	return slope, sub(div(y, n), div(mul(slope, x), n))
}

// wordsSmooth: P6.12, from the end back: the level at a place, and the trend that goes into it.
func wordsSmooth(l []float64, sf, tf float64) float64 {
	if len(l) < 2 || !(sf > 0 && sf < 1) || !(tf > 0 && tf < 1) {
		return nan
	}
	var levels, trends []float64
	level := func(i int) float64 { // p is 0 ahead of the first level
		if i < 0 {
			return 0
		}
		return levels[i]
	}
	levels, trends = []float64{l[0]}, []float64{0}
	for i := 1; i < len(l); i++ {
		b := sub(l[1], l[0])
		if i > 1 {
			b = add(mul(tf, sub(level(i-1), level(i-2))), mul(sub(1, tf), trends[i-1]))
		}
		trends = append(trends, b)
		levels = append(levels, add(mul(sf, l[i]), mul(sub(1, sf), add(level(i-1), b))))
	}
	return levels[len(l)-1]
}

// wordsEighth: P6.13, the eighth of the period in which a sample stands, by whole numbers without an end.
func wordsEighth(t, first, period int64) int64 {
	r := new(big.Int).Mod(big.NewInt(apart(t, first)), big.NewInt(period)) // never below 0
	r.Mul(r, big.NewInt(8))
	return r.Quo(r, big.NewInt(period)).Int64()
}

// wordsTurn: P6.13.
func wordsTurn(ss []api.Sample, period int64) (re, im float64) {
	if period < 1 || period > api.MaxDur {
		return 0, 0
	}
	for _, s := range ss {
		k := wordsEighth(s.T, ss[0].T, period)
		re = add(re, mul(s.V, []float64{1, half, 0, -half, -1, -half, 0, half}[k]))
		im = add(im, mul(s.V, []float64{0, half, 1, half, 0, -half, -1, -half}[k]))
	}
	return re, im
}

// wordsBeat: P6.14.
func wordsBeat(ss []api.Sample, period int64) float64 {
	if len(ss) == 0 || period < 1 || period > api.MaxDur {
		return nan
	}
	re, im := wordsTurn(ss, period)
	return div(math.Sqrt(add(mul(re, re), mul(im, im))), float64(len(ss)))
}

// wordsBuckets: P6.15.
func wordsBuckets(q float64, bs []api.Bucket) float64 {
	if q != q {
		return nan
	}
	if q < 0 {
		return -inf
	}
	if q > 1 {
		return inf
	}
	uppers, counts := wordsSteps(bs)
	n := len(uppers)
	if n < 2 || uppers[n-1] != inf {
		return nan
	}
	most := counts[0]
	for i := 1; i < n; i++ {
		if counts[i] < most {
			counts[i] = most
		}
		if counts[i] > most {
			most = counts[i]
		}
	}
	all := counts[n-1]
	if !(all > 0) {
		return nan
	}
	rank := mul(q, all)
	b := 0
	for b < n-1 && !(counts[b] >= rank) {
		b++
	}
	if b == n-1 {
		return uppers[n-2]
	}
	if b == 0 && uppers[0] <= 0 {
		return uppers[0]
	}
	from, base := 0.0, 0.0
	if b > 0 {
		from, base = uppers[b-1], counts[b-1]
	}
	count := sub(counts[b], base)
	return add(from, mul(sub(uppers[b], from), div(sub(rank, base), count)))
}

// wordsSteps: P6.15, 1 and 2: the upper bounds, one by one from the least on, each with the counts that the list gives it.
func wordsSteps(bs []api.Bucket) (uppers, counts []float64) {
	for {
		var next []api.Bucket // those of the least bound that isn't told yet
		for _, b := range bs {
			told := len(uppers) > 0 && !(b.Upper > uppers[len(uppers)-1])
			if b.Upper != b.Upper || told {
				continue
			}
			if len(next) > 0 && b.Upper < next[0].Upper {
				next = nil
			}
			if len(next) == 0 || b.Upper == next[0].Upper {
				next = append(next, b)
			}
		}
		if len(next) == 0 {
			return uppers, counts
		}
		count := next[0].Count
		for _, b := range next[1:] {
			count = add(count, b.Count)
		}
		uppers, counts = append(uppers, next[0].Upper), append(counts, count)
	}
}

// someRand: numbers that look random, the same in each run.
func someRand() *rand.Rand {
	return rand.New(rand.NewPCG(6, 15))
}

// anyFloat: any finite float, each exponent as often as another, of either sign.
func anyFloat(r *rand.Rand) float64 {
	for {
		if v := math.Float64frombits(r.Uint64()); finite(v) {
			return v
		}
	}
}

// special: the floats at which things end, of both signs: noughts, subnormal floats, the least normal one, 1 and its neighbours, whole numbers up to where all are even, the greatest one, the infinite ones, NaN.
func special() []float64 {
	sizes := []float64{0, least, 2 * least, 3e-310, math.Float64frombits(1<<52 - 1), math.Float64frombits(1 << 52), 1e-300, 0.1, 0.5, half, 2 * half, math.Nextafter(1, 0), 1, math.Nextafter(1, 2), 1.5, 2, 2.5, 3, 10, 1000, 1<<52 - 0.5, 1<<52 + 1, 1<<53 - 1, 1 << 53, 1<<53 + 2, 1e100, 1e300, 0x1p1023, greatest, inf}
	out := []float64{nan, math.Float64frombits(0xFFF0000000000001)}
	for _, v := range sizes {
		out = append(out, v, -v)
	}
	return append(out, minus)
}

// lists: lists of numbers of several lengths and kinds, with special ones among them and without.
func lists() [][]float64 {
	r := someRand()
	out := [][]float64{nil, {}, {0}, {minus}, {1}, {nan}, {inf}, {-inf}, {0, minus}, {minus, 0}, {minus, minus}, {inf, -inf}, {1, nan}, {nan, 1}, {nan, nan}}
	all := special()
	for _, n := range []int{1, 2, 3, 4, 5, 8, 13, 40} {
		for range 12 {
			var few, near, wide, odd, tied []float64
			for range n {
				few = append(few, float64(r.IntN(7)-3))
				near = append(near, 1+r.Float64())
				wide = append(wide, anyFloat(r))
				odd = append(odd, all[r.IntN(len(all))])
				tied = append(tied, []float64{0, minus, nan, 1, -1, inf, -inf}[r.IntN(7)])
			}
			out = append(out, few, near, wide, odd, tied, append(few, wide...))
		}
	}
	return out
}

// sampled: the numbers of a list as the values of samples at times that look random: near one another, far apart, in any order.
func sampled(r *rand.Rand, l []float64) []api.Sample {
	var out []api.Sample
	form := r.IntN(4)
	at := int64(r.Uint64())
	for i, v := range l {
		switch form {
		case 0:
			at += 15000
		case 1:
			at += r.Int64N(100000)
		case 2:
			at = int64(i)*1000 - r.Int64N(1000)
		default:
			at = int64(r.Uint64())
		}
		out = append(out, api.Sample{T: at, V: v, Stale: r.IntN(3) == 0})
	}
	return out
}

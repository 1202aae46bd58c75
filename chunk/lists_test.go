package chunk_test

import (
	"cmp"
	"math"
	"math/rand/v2"
	"slices"
	"strings"

	"weir/api"
)

// at: a sample of a time and a value; gone: a stale one.
func at(t int64, v float64) api.Sample { return api.Sample{T: t, V: v} }
func gone(t int64) api.Sample          { return api.Sample{T: t, Stale: true} }

// values of all sorts; many differ in few bits.
func values() []float64 {
	list := []float64{0, math.Copysign(0, -1), 1, -1, 1.5, 2, 3, 0.1, 0.2, -0.1, 100, 1e300, -1e-300,
		math.Inf(1), math.Inf(-1), math.NaN(), math.MaxFloat64, -math.MaxFloat64, math.SmallestNonzeroFloat64, -math.SmallestNonzeroFloat64}
	for _, bits := range []uint64{1, 2, 3, 1 << 62, 1 << 63, 1<<63 | 1, 1 << 51, 0x7FEFFFFFFFFFFFFF, 0x000FFFFFFFFFFFFF, 0x00F0000000000000, 0x0000FF0000000000, 0x5555555555555555, 0x2AAAAAAAAAAAAAAA} {
		list = append(list, math.Float64frombits(bits))
	}
	for _, bits := range otherNaNs() {
		list = append(list, math.Float64frombits(bits))
	}
	return list
}

// otherNaNs: bits of NaNs that aren't those of num.Bits.
func otherNaNs() []uint64 {
	return []uint64{0x7FF0000000000001, 0x7FF8000000000000, 0x7FF8000000000002, 0x7FFFFFFFFFFFFFFF, 0xFFF8000000000001, 0xFFF0000000000001, 0xFFFFFFFFFFFFFFFF}
}

// scaleEnds: each way of writing e at both of its ends, one within, one beyond.
func scaleEnds() []int64 {
	list := []int64{0, 1, -1, 2, -2, math.MaxInt64, math.MinInt64, math.MaxInt64 - 1, math.MinInt64 + 1, 1 << 40, -1 << 40, 100000, -100000, 1 << 32, -1 << 32}
	for _, end := range []int64{-63, 64, -255, 256, -2047, 2048} {
		list = append(list, end-1, end, end+1)
	}
	for _, beyond := range []int64{math.MaxInt64, math.MinInt64} {
		list = append(list, beyond-63, beyond-64, beyond+63, beyond+64, beyond-2047, beyond+2048)
	}
	return list
}

// timesOf: samples ahead of which e has each of these values, in turn, as far as times rise; a value with which they wouldn't is left out.
func timesOf(from int64, changes []int64) []int64 {
	times := []int64{from}
	step, now := int64(0), from
	for _, e := range changes {
		if next := now + step + e; next > now {
			step, now = step+e, next
			times = append(times, now)
		}
	}
	return times
}

// chance makes things by chance, the same ones each time.
type chance struct{ dice *rand.Rand }

func newChance(seed uint64) chance { return chance{rand.New(rand.NewPCG(seed, 17))} }

func pick[T any](c chance, list []T) T { return list[c.dice.IntN(len(list))] }

// value: the one ahead, one near it, or any.
func (c chance) value(ahead float64) float64 {
	switch c.dice.IntN(5) {
	case 0:
		return ahead
	case 1:
		return ahead + 1
	case 2:
		return math.Float64frombits(math.Float64bits(ahead) ^ c.dice.Uint64()&0x0000FFFF00000000)
	case 3:
		return math.Float64frombits(c.dice.Uint64() >> c.dice.IntN(64) << c.dice.IntN(64))
	}
	return pick(c, values())
}

// change: an e of each width.
func (c chance) change() int64 {
	switch c.dice.IntN(8) {
	case 0, 1, 2:
		return 0
	case 3:
		return c.dice.Int64N(300) - 150
	case 4:
		return c.dice.Int64N(6000) - 3000
	case 5:
		return int64(c.dice.Uint64()) >> c.dice.IntN(64)
	}
	return pick(c, scaleEnds())
}

func (c chance) begin() int64 {
	return pick(c, []int64{0, 1000, -5, 1700000000000, math.MinInt64, math.MinInt64 + 1, math.MaxInt64 - 5000, math.MaxInt64, api.MinTime, api.MaxTime, int64(c.dice.Uint64())})
}

// list: at most n samples with rising times.
func (c chance) list(n int) []api.Sample {
	changes := []int64{1 + c.dice.Int64N(100000)}
	for range c.dice.IntN(n + 1) {
		changes = append(changes, c.change())
	}
	times := timesOf(c.begin(), changes)
	var s []api.Sample
	value := pick(c, values())
	for _, t := range times[:c.dice.IntN(min(n, len(times))+1)] {
		value = c.value(value)
		s = append(s, api.Sample{T: t, V: value, Stale: c.dice.IntN(5) == 0})
	}
	return s
}

// A writer writes lists as Pack does, but for a slip now and then.
type writer struct {
	chance
	slips  bool
	ahead  uint64
	frame  bitFrame
	stream strings.Builder
}

func (w *writer) slip() bool { return w.slips && w.dice.IntN(4) == 0 }

func (w *writer) time(s []api.Sample, i int) {
	text := wordsTime(s, i)
	if i > 0 && w.slip() {
		text = pick(w.chance, changeWays(wordsE(s, i)))
	}
	w.stream.WriteString(text)
}

// value writes by a frame that stands, if it does, or by any that will do.
func (w *writer) value(s api.Sample) {
	if s.Stale {
		w.stream.WriteString("111")
		return
	}
	bits := wordsBits(s.V)
	if s.V != s.V && w.slip() {
		bits = pick(w.chance, otherNaNs())
	}
	x := bits ^ w.ahead
	w.ahead = bits
	l, r := 32, 31
	if x != 0 {
		l, r = edges(x)
	}
	switch {
	case x == 0 && !w.slip():
		w.stream.WriteString("0")
	case (x == 0 && w.frame.set || x != 0 && w.frame.does(x)) && !w.slip():
		w.stream.WriteString("10" + w.frame.cut(x))
	default:
		if w.slip() {
			l, r = w.dice.IntN(l+1), w.dice.IntN(r+1)
		}
		w.frame = bitFrame{true, l, r}
		w.stream.WriteString(w.frame.told(x))
	}
}

// end: the stream's bytes; with a slip a bit or a byte more, or less.
func (w *writer) end() []byte {
	b := packed(w.stream.String())
	if !w.slip() {
		return b
	}
	switch w.dice.IntN(4) {
	case 0:
		b[len(b)-1] |= 1 << w.dice.IntN(8)
	case 1:
		b = append(b, byte(w.dice.IntN(2)))
	case 2:
		b = b[:w.dice.IntN(len(b)+1)]
	case 3:
		b[w.dice.IntN(len(b))] ^= 1 << w.dice.IntN(8)
	}
	return b
}

// bytes: the form of a list, or, with slips, something like it.
func (c chance) bytes(s []api.Sample, slips bool) []byte {
	w := &writer{chance: c, slips: slips}
	n := len(s)
	if w.slip() && w.slip() {
		n = max(0, n+w.dice.IntN(3)-1)
	}
	w.stream.WriteString(inBits(uint64(n), 17))
	for i := range s {
		w.time(s, i)
		w.value(s[i])
	}
	return w.end()
}

// Lists with an eye to each rule: what a list is made for stands ahead of it.
func someLists() map[string][]api.Sample {
	nan, minus := math.NaN(), math.Copysign(0, -1)
	lists := map[string][]api.Sample{
		"none":              nil,
		"one":               {at(0, 0)},
		"one stale":         {gone(0)},
		"one of V 1":        {at(0, 1)},
		"equal steps":       {at(1000, 1.5), at(2000, 1.5), at(3000, 1.5)},
		"the last time":     {at(math.MaxInt64, 1)},
		"the first time":    {at(math.MinInt64, -1)},
		"all of int64":      {at(math.MinInt64, 1), at(math.MaxInt64, 1)},
		"in three":          {at(math.MinInt64, 1), at(0, 1), at(math.MaxInt64, 1)},
		"a step round":      {at(math.MinInt64, 1), at(math.MaxInt64-1, 2), at(math.MaxInt64, 3)},
		"small, then great": {at(math.MinInt64, 1), at(math.MinInt64+1, 2), at(math.MaxInt64, 3)},
		"great steps":       {at(-1<<62, 0), at(0, 0), at(1<<62, 0), at(math.MaxInt64, 0)},
		"stale ahead":       {gone(1), gone(2), at(3, 1), at(4, 1)},
		"stale between":     {at(1, 7), gone(2), at(3, 7), gone(4), gone(5), at(6, 8)},
		"stale behind":      {at(1, 7), at(2, 8), gone(3), gone(4)},
		"stale alone":       {gone(-4), gone(-3), gone(0), gone(100000)},
		"stale with V":      {{T: 1, V: 5, Stale: true}, at(2, 5), {T: 3, V: nan, Stale: true}, at(4, 5), {T: 5, V: minus, Stale: true}},
		"stale in a frame":  {at(1, 1), gone(2), at(3, 1.5), gone(4), at(5, 1)},
		"noughts":           {at(1, 0), at(2, minus), at(3, 0), at(4, minus), at(5, minus)},
		"a nought of minus": {at(1, minus), at(2, 0)},
		"NaNs":              {at(1, nan), at(2, nan), at(3, 1), at(4, nan)},
		"infinities":        {at(1, math.Inf(1)), at(2, math.Inf(-1)), at(3, math.Inf(-1)), at(4, math.Inf(1)), at(5, nan)},
		"a frame that does": {at(1, 1), at(2, 2), at(3, 1), at(4, 2)},
		"ever wider frames": {at(1, bitsAs(1<<32)), at(2, bitsAs(3<<32)), at(3, bitsAs(7<<31)), at(4, bitsAs(1<<40)), at(5, bitsAs(1<<40+1)), at(6, bitsAs(1<<63+1)), at(7, bitsAs(1<<40))},
		"all bits":          {at(1, bitsAs(1<<63|1)), at(2, bitsAs(0)), at(3, bitsAs(1)), at(4, bitsAs(1<<63))},
		"the lowest bit":    {at(1, bitsAs(1)), at(2, 0), at(3, bitsAs(1)), at(4, bitsAs(2)), at(5, bitsAs(1))},
		"the highest bit":   {at(1, minus), at(2, 0), at(3, bitsAs(1<<62)), at(4, bitsAs(3<<62&^(1<<63)))},
	}
	for i, v := range values() {
		lists["all values"] = append(lists["all values"], at(int64(i), v), at(int64(i)+1000, v))
	}
	slices.SortFunc(lists["all values"], func(a, b api.Sample) int { return cmp.Compare(a.T, b.T) })
	for i, t := range timesOf(math.MinInt64, scaleEnds()) {
		lists["all ways of e"] = append(lists["all ways of e"], at(t, float64(i%3)))
	}
	return lists
}

func bitsAs(bits uint64) float64 { return math.Float64frombits(bits) }

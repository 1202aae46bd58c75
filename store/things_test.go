package store_test

import (
	"fmt"
	"math"
	"math/rand/v2"
	"slices"
	"strings"

	"weir/api"
)

// example: the chapter's dataset.
func example() api.Dataset {
	return data(series(set("__name__", "up", "job", "b"), point(0, 1), stale(60000, 5)), series(set("__name__", "up", "job", "a"), point(0, 2), point(299999, 3)))
}

// brief: a dataset as a text that isn't too long to read.
func brief(d api.Dataset) string {
	text := fmt.Sprintf("%d series: %+v", len(d.Series), d.Series[:min(len(d.Series), 4)])
	return text[:min(len(text), 1500)]
}

// numbers: 0 to n - 1.
func numbers(n int) []int {
	var list []int
	for i := range n {
		list = append(list, i)
	}
	return list
}

// beyond: numbers of series that aren't there where there are n.
func beyond(n int) []int {
	return []int{-1, n, n + 1, -n - 1, math.MaxInt, math.MinInt, 1 << 32, -1 << 32}
}

// extremes: times, and numbers that are none.
func extremes() []int64 {
	return []int64{math.MinInt64, math.MinInt64 + 1, math.MinInt64 + 300000, api.MinTime - 300001, api.MinTime - 1, api.MinTime, api.MinTime + 1, -300000, -1, 0, 1, 299999, 300000, api.MaxTime - 1, api.MaxTime, api.MaxTime + 1, api.MaxTime + 299999, api.MaxTime + 300000, math.MaxInt64 - 300000, math.MaxInt64 - 1, math.MaxInt64}
}

// timesNear: just at, ahead of and behind each of a few points, the same a Lookback later, and the extremes.
func timesNear(points []api.Sample) []int64 {
	times := extremes()
	for k, p := range points {
		if k < 4 || k > len(points)-4 {
			times = append(times, p.T-1, p.T, p.T+1, p.T+299999, p.T+300000, p.T+300001)
		}
	}
	slices.Sort(times)
	return slices.Compact(times)
}

func goodNames() []string { return []string{"__name__", "a", "b", "job", "A", "_", "a0", "ab"} }

func names() []string {
	return append(goodNames(), "", "0x", "a:b", "a b", "é", "\xff", "a\x00", "none", "zone")
}

// goodValues: values of labels that are metrics' names too come first.
func goodValues() []string {
	return []string{"up", "a", "b", "ab", "a:b", ":", "_", "1", "2", "a.b", "é", "\x00", "日本", "\n", "11", " ", `1", b="2`, `"`}
}

func values() []string { return append(goodValues(), "", "\xff", "a\xc3", "none", "\xed\xa0\x80") }

func floats() []float64 {
	return []float64{0, math.Copysign(0, -1), 1, -1, 1.5, math.NaN(), math.Float64frombits(0x7ff0000000000001), math.Float64frombits(0xfff8000000000123), math.Inf(1), math.Inf(-1), math.MaxFloat64, math.SmallestNonzeroFloat64, 0.1, 1e300}
}

// wrongSets: lists that are no label sets, each in a way of its own.
func wrongSets() [][]api.Label {
	return [][]api.Label{
		set("a", ""),
		set("", "1"),
		set("0x", "1"),
		set("a:b", "1"),
		set("é", "1"),
		set("a", "\xff"),
		set("a\xff", "1"),
		set("b", "1", "a", "1"),
		set("a", "1", "a", "1"),
		set("a", "1", "a", "2"),
		set("a", "1", "b", ""),
		set("", ""),
		set("__name__", ""),
		set("a", "1", "__name__", "up"),
	}
}

// wide: a label set of n labels.
func wide(n int) []api.Label {
	var ls []api.Label
	for i := range n {
		ls = append(ls, api.Label{Name: fmt.Sprintf("a%03d", i), Value: "x"})
	}
	return ls
}

// run: n points, a second apart.
func run(n int) []api.Sample {
	var list []api.Sample
	for k := range n {
		list = append(list, point(int64(k)*1000, float64(k%7)))
	}
	return list
}

// patterns: such as take the empty text and such as don't.
func patterns() []string {
	return []string{"", "1", "a|b", "1|", "(a|b)?", "x?", ".*", ".+", "a+", "[^a]*", "(?i)UP", "u.", "a\\.b", "^1$", "é", "[12]", "1{1,2}", "none"}
}

// wrongMatchers: such as are refused, each in a way of its own.
func wrongMatchers() []api.Matcher {
	return []api.Matcher{
		match("a", 0, "x"), match("a", 5, "x"), match("a", -1, "x"), match("a", math.MaxInt, "x"), match("a", math.MinInt, ""),
		match("", 1, "x"), match("0", 2, "x"), match("a:b", 3, "x"), match("a b", 4, "x"), match("é", 1, ""),
		match("a", 1, "\xff"), match("a", 2, "\xc3"), match("a", 3, "\xff"), match("a", 4, "\xed\xa0\x80"),
		match("a", 3, "("), match("a", 4, ")"), match("a", 3, "["), match("a", 3, "a**"), match("a", 4, "\\8"), match("a", 3, "(?z)"), match("a", 3, "a{1001}"),
	}
}

// chance makes things by chance, the same ones each time.
type chance struct{ dice *rand.Rand }

func newChance(seed uint64) chance { return chance{rand.New(rand.NewPCG(seed, 19))} }

func pick[T any](c chance, list []T) T { return list[c.dice.IntN(len(list))] }

// set: a label set; few names and values, so that many sets have one in common.
func (c chance) set() []api.Label {
	good := goodNames()
	slices.Sort(good)
	var ls []api.Label
	for _, name := range good {
		if c.dice.IntN(3) > 0 {
			continue
		}
		some := goodValues()[:7]
		if name != api.MetricName {
			some = goodValues()[:2+c.dice.IntN(16)]
		}
		ls = append(ls, api.Label{Name: name, Value: pick(c, some)})
	}
	return ls
}

// points: up to n of them, rising, near each other or far apart.
func (c chance) points(n int) []api.Sample {
	at := pick(c, []int64{api.MinTime, -300000, 0, 7, 1700000000000, api.MaxTime - 5})
	var list []api.Sample
	for range c.dice.IntN(n + 1) {
		if at > api.MaxTime {
			break
		}
		list = append(list, api.Sample{T: at, V: pick(c, floats()), Stale: c.dice.IntN(4) == 0})
		at += pick(c, []int64{1, 1, 2, 1000, 15000, 299999, 300000, 300001, 1 << 40})
	}
	return list
}

// dataset: up to n series, well-formed.
func (c chance) dataset(n, points int) api.Dataset {
	var d api.Dataset
	for range c.dice.IntN(n + 1) {
		s := series(c.set(), c.points(points)...)
		if !slices.ContainsFunc(d.Series, func(x api.Series) bool { return slices.Equal(x.Labels, s.Labels) }) {
			d.Series = append(d.Series, s)
		}
	}
	return d
}

// spoilt: a dataset into which a slip or two were put.
func (c chance) spoilt(d api.Dataset) api.Dataset {
	for range 1 + c.dice.IntN(2) {
		if len(d.Series) == 0 {
			return d
		}
		d = c.slip(d)
	}
	return d
}

func (c chance) slip(d api.Dataset) api.Dataset {
	i := c.dice.IntN(len(d.Series))
	s := d.Series[i]
	s.Labels, s.Points = slices.Clone(s.Labels), slices.Clone(s.Points)
	switch c.dice.IntN(8) {
	case 0:
		s.Labels = pick(c, wrongSets())
	case 1:
		s.Labels = wide(pick(c, []int{31, 32, 33, 40}))
	case 2:
		s.Labels = append(s.Labels, api.Label{Name: strings.Repeat("n", pick(c, []int{127, 128, 129})), Value: "x"})
	case 3:
		s.Labels = append(s.Labels, api.Label{Name: "n", Value: strings.Repeat("v", pick(c, []int{511, 512, 513}))})
	case 4:
		s.Labels = set("__name__", pick(c, values()))
	case 5:
		s.Labels = slices.Clone(pick(c, d.Series).Labels)
	case 6:
		s.Points = append(s.Points, c.points(3)...)
	case 7:
		s.Points = append(s.Points, point(pick(c, extremes()), 1))
	}
	d.Series[i] = s
	return d
}

func (c chance) matcher() api.Matcher {
	m := match(pick(c, append(goodNames(), "none")), 1+c.dice.IntN(4), pick(c, append(goodValues(), "")))
	if m.Op >= api.MatchRe {
		m.Value = pick(c, patterns())
	}
	return m
}

// matchers: up to n of them; with slips now and then one that is refused.
func (c chance) matchers(n int, slips bool) []api.Matcher {
	var ms []api.Matcher
	for range c.dice.IntN(n + 1) {
		ms = append(ms, c.matcher())
	}
	if slips && c.dice.IntN(4) == 0 {
		ms = slices.Insert(ms, c.dice.IntN(len(ms)+1), pick(c, wrongMatchers()))
	}
	return ms
}

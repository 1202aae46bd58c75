package fns_test

import (
	"slices"
	"strconv"
	"testing"

	"weir/api"
	"weir/fns"
)

// P23.2: the chapter's example of Histogram, and such as tell which elements are buckets, and of which histogram.
func TestHistogramExamples(t *testing.T) {
	const h = `h{le="1"} 2; h{le="2"} 4; h{le="+Inf"} 4`
	for _, c := range []struct {
		q       float64
		v, want string
	}{
		{0.5, h, `{} 1`},
		{0.75, h, `{} 1.5`},
		{1, h, `{} 2`},
		{0, h, `{} 0`},
		{-1, h, `{} -Inf`},
		{2, h, `{} +Inf`},
		{nan, h, `{} NaN`},
		{0.5, "", ``},
		{0.5, `h 1; {a="1"} 2; {le="x"} 3; {le="1x"} 3; {le=" 1"} 3`, ``},
		{2, `h 1; {a="1",le="7"} 2`, `{a="1"} +Inf`},
		{0.5, h + `; h{le="x"} 9; h{a="1"} 9`, `{} 1`},
		{0.5, h + `; g{a="1",le="1"} 2; g{a="1",le="inf"} 8`, `{} 1; {a="1"} 1`},
		{0.25, `h{a="1",le="4"} 4; h{a="2",le="4"} 2; h{a="1",le="Inf"} 4; h{a="2",le="+Inf"} 4`, `{a="1"} 1; {a="2"} 2`},
		{0.5, `a{le="1"} 2; b{le="2"} 4; c{le="+Inf"} 4`, `{} 1`},
		{0.5, `h{le="0x1"} 2; h{le="2e0"} 4; h{le="iNf"} 4; h{le="nan"} 7`, `{} 1`},
		{0.5, `h{le="-1"} 2; h{le="+2"} 2; h{le="+Inf"} 4`, `{} -1`},
		{0.5, `h{le="1",x="a"} 2; h{le="+Inf",x="b"} 4`, `{x="a"} NaN; {x="b"} NaN`},
		{0.5, `h{A="1",le="1"} 2; h{A="1",le="+Inf"} 2; h{le="1"} 4; h{le="+Inf"} 4; h{le="1",z="1"} 6; h{le="+Inf",z="1"} 6`, `{} 0.5; {A="1"} 0.5; {z="1"} 0.5`},
	} {
		for _, v := range permuted(vec(c.v)) {
			got, e := fns.Histogram(c.q, v)
			verifyVector(t, got, e, vec(c.want), 0, "Histogram", number(c.q), c.v)
		}
		verify(t, "histogram_quantile", args(c.q, "v:"+c.v), 0, vectorArg(vec(c.want)), 0)
		checkHistogram(t, c.q, vec(c.v))
	}
}

// P23.2: buckets of one upper bound stand in the canonical order of the vector, on which their sum hangs.
func TestHistogramOrder(t *testing.T) {
	for _, c := range []struct{ v, want string }{
		{`a{le="1"} 1; b{le="1.0"} 1e16; c{le="01"} -1e16; d{le="+Inf"} 4`, `{} 1`},
		{`a{le="1"} 1e16; b{le="1.0"} -1e16; c{le="01"} 1; d{le="+Inf"} 4`, `{} 0.5`},
		{`d{le="1"} 1; c{le="1.0"} 1e16; b{le="01"} -1e16; a{le="+Inf"} 4`, `{} 0.5`},
		{`x{le="01"} 1; x{le="1"} 1e16; x{le="1.0"} -1e16; x{le="+Inf"} 4`, `{} 1`},
		{`x{le="1.0"} 1; x{le="1"} -1e16; x{le="01"} 1e16; x{le="+Inf"} 4`, `{} 0.5`},
	} {
		for _, v := range permuted(vec(c.v)) {
			got, e := fns.Histogram(0.125, v)
			verifyVector(t, got, e, vec(c.want), 0, "Histogram", told(v))
			checkHistogram(t, 0.125, v)
		}
	}
}

// P23.2: so too, where there are many buckets of few bounds in few histograms.
func TestHistogramManyBuckets(t *testing.T) {
	c := newChance(9)
	for range 300 {
		var v []api.Elem
		for i := range 100 + c.dice.IntN(100) {
			bound := pick(c, []string{"1", "1.0", "01", "2", "2e0", "+Inf", "inf"})
			ls := set("__name__", "m"+strconv.Itoa(i), "h", pick(c, []string{"1", "2"}), "le", bound)
			v = append(v, api.Elem{Labels: ls, V: pick(c, []float64{0.1, 0.7, 1e15, -1e15})})
		}
		for range 5 {
			checkHistogram(t, c.dice.Float64(), v)
		}
	}
}

// P23.2: histograms by chance, by the words, with NaNs and bounds of every sort.
func TestHistogramByChance(t *testing.T) {
	c, many := newChance(6), 0
	bounds := []string{"1", "2", "1.0", "+Inf", "+Inf", "Inf", "-1", "0", "-0", "nan", "x", "0x2", "1e3", "inf "}
	for i := range 20000 {
		var v []api.Elem
		for range c.dice.IntN(12) {
			ls := relabelled(set("__name__", pick(c, []string{"h", "h", "g"})), pick(c, []string{"A", "b", "z"}), pick(c, []string{"", "", "1"}))
			ls = relabelled(ls, "le", pick(c, bounds))
			if !slices.ContainsFunc(v, func(x api.Elem) bool { return slices.Equal(x.Labels, ls) }) {
				v = append(v, api.Elem{Labels: ls, V: c.value()})
			}
		}
		q := c.dice.Float64()
		if i%4 == 0 {
			q = pick(c, special())
		}
		checkHistogram(t, q, v)
		if got, _ := fns.Histogram(q, v); len(got) > 2 {
			many++
		}
	}
	if many < 1000 {
		t.Errorf("%d times there were many histograms", many)
	}
}

// places: where in canonical order a vector of line's stands what was answered.
func places(v []api.Elem) []int {
	var out []int
	for _, x := range v {
		n, _ := strconv.Atoi(x.Labels[0].Value)
		out = append(out, n-1000000)
	}
	return out
}

// P23.2: the chapter's example of Sort, and such as tell NaNs, noughts and equal values.
func TestSortExamples(t *testing.T) {
	for _, c := range []struct {
		values   []float64
		up, down []int
	}{
		{[]float64{2, nan, 1, 2}, []int{2, 0, 3, 1}, []int{0, 3, 2, 1}},
		{nil, nil, nil},
		{[]float64{nan}, []int{0}, []int{0}},
		{[]float64{nan, nan, nan}, []int{0, 1, 2}, []int{0, 1, 2}},
		{[]float64{5, 5, 5}, []int{0, 1, 2}, []int{0, 1, 2}},
		{[]float64{0, minus, 0, minus}, []int{0, 1, 2, 3}, []int{0, 1, 2, 3}},
		{[]float64{minus, 0, 1, -1}, []int{3, 0, 1, 2}, []int{2, 0, 1, 3}},
		{[]float64{nan, -inf, inf, otherNaN(), 0}, []int{1, 4, 2, 0, 3}, []int{2, 4, 1, 0, 3}},
		{[]float64{otherNaN(), nan, 1}, []int{2, 0, 1}, []int{2, 0, 1}},
		{[]float64{3, 2, 1}, []int{2, 1, 0}, []int{0, 1, 2}},
		{[]float64{-least, least, 0}, []int{0, 2, 1}, []int{1, 2, 0}},
		{[]float64{2, 1, 2, 1, 2}, []int{1, 3, 0, 2, 4}, []int{0, 2, 4, 1, 3}},
	} {
		for _, v := range permuted(line(c.values...)) {
			up, e1 := fns.Sort(v, false)
			down, e2 := fns.Sort(v, true)
			if e1 != 0 || e2 != 0 || !slices.Equal(places(up), c.up) || !slices.Equal(places(down), c.down) {
				t.Errorf("Sort of %s = %v, %d; down %v, %d", told(v), places(up), e1, places(down), e2)
			}
			verify(t, "sort", args(v), 0, vectorArg(up), 0)
			verify(t, "sort_desc", args(v), 0, vectorArg(down), 0)
		}
	}
}

// P23.2: Sort keeps names and values as they are; elements that differ by the name alone too.
func TestSortNames(t *testing.T) {
	got, e := fns.Sort(vec(`up{a="1"} 1; down{a="1"} 1; {a="1"} 0; up{A="1"} 1`), true)
	verifyVector(t, got, e, vec(`up{A="1"} 1; down{a="1"} 1; up{a="1"} 1; {a="1"} 0`), 0, "Sort")
	got, e = fns.Sort(vec(`{a="1"} 0; {a="2"} -0; {a="3"} -1`), false)
	verifyVector(t, got, e, vec(`{a="3"} -1; {a="1"} 0; {a="2"} -0`), 0, "Sort")
}

// P23.2: Sort by chance, long vectors too, by the words.
func TestSortByChance(t *testing.T) {
	c := newChance(7)
	for i := range 10000 {
		v := c.vector(1+i%8, i%2 == 0)
		if i%3 == 0 {
			v = c.apart(1 + i%60)
		}
		checkSort(t, v, c.yes())
	}
}

// P23.2: the chapter's example of Absent, and such as tell operators, names and values.
func TestAbsentExamples(t *testing.T) {
	eq := func(texts ...string) []api.Matcher {
		var ms []api.Matcher
		for _, l := range set(texts...) {
			ms = append(ms, api.Matcher{Name: l.Name, Op: api.MatchEq, Value: l.Value})
		}
		return ms
	}
	re := func(name, value string) api.Matcher {
		return api.Matcher{Name: name, Op: api.MatchRe, Value: value}
	}
	for _, c := range []struct {
		ms   []api.Matcher
		want string
	}{
		{append(eq("a", "1", "c", "1", "c", "2", "__name__", "up"), re("b", "x")), `{a="1"} 1`},
		{nil, `{} 1`},
		{[]api.Matcher{}, `{} 1`},
		{eq("b", "2", "a", "1", "C", "3"), `{C="3",a="1",b="2"} 1`},
		{eq("a", "1", "a", "1", "b", "2", "a", "1"), `{a="1",b="2"} 1`},
		{eq("a", "1", "a", ""), `{} 1`},
		{eq("a", "1", "b", "x", "a", "2", "a", "1"), `{b="x"} 1`},
		{eq("a", "2", "a", "1", "aa", "x", "A", "y"), `{A="y",aa="x"} 1`},
		{eq("a", ""), `{} 1`},
		{eq("a", "\xff", "b", "é"), `{b="é"} 1`},
		{eq("a", "1", "a", "\xff"), `{} 1`},
		{eq("0", "1", "", "1", "a:b", "1", "é", "1", "\xff", "1", "a b", "1", "_", "1"), `{_="1"} 1`},
		{append(eq("a", "1"), re("a", "2")), `{a="1"} 1`},
		{[]api.Matcher{{Name: "a", Op: 2, Value: "1"}, {Name: "b", Op: 3, Value: "1"}, {Name: "c", Op: 4, Value: "1"}, {Name: "d", Op: 0, Value: "1"}, {Name: "e", Op: 5, Value: "1"}, {Name: "f", Op: -1, Value: "1"}, {Name: "g", Op: 1, Value: "1"}}, `{g="1"} 1`},
		{eq("__name__", "up"), `{} 1`},
		{eq("__name__x", "up", "le", "1", "by", "2"), `{__name__x="up",by="2",le="1"} 1`},
	} {
		verifyVector(t, fns.Absent(c.ms), 0, vec(c.want), 0, "Absent", c.want)
		checkAbsent(t, c.ms)
		for from := range c.ms {
			turned := append(slices.Clone(c.ms[from:]), c.ms[:from]...)
			verifyVector(t, fns.Absent(turned), 0, vec(c.want), 0, "Absent", c.want)
		}
	}
}

// P23.2: Absent by chance, by the words.
func TestAbsentByChance(t *testing.T) {
	c := newChance(8)
	for i := range 20000 {
		checkAbsent(t, c.matchers(1+i%9))
	}
	for _, name := range append(wrongLabels(), goodLabels()...) {
		for _, value := range append(wrongTexts(), "", "1") {
			checkAbsent(t, []api.Matcher{{Name: name, Op: 1, Value: value}})
			checkAbsent(t, []api.Matcher{{Name: name, Op: 1, Value: value}, {Name: name, Op: 1, Value: value + "x"}})
		}
	}
}

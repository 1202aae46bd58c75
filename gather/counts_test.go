package gather_test

import (
	"slices"
	"testing"

	"weir/api"
	"weir/gather"
)

// P22.2: the chapter's examples of count and max, and such as tell the four apart.
func TestCountsExamples(t *testing.T) {
	checkRows(t, []row{
		{by("count"), four, `{} 4`},
		{without("count", "a"), four, `{b="x"} 2; {b="y"} 2`},
		{by("count", "a"), `{a="1",b="x"} 3; {a="1",b="y"} NaN; {a="2"} 5; {b="z"} 0`, `{} 1; {a="1"} 2; {a="2"} 1`},
		{by("count"), "", ""},
		{by("group"), four, `{} 1`},
		{by("group", "a"), four, `{a="1"} 1; {a="2"} 1`},
		{by("group"), `a NaN`, `{} 1`},
		{by("group"), "", ""},
		{by("max", "a"), four, `{a="1"} 3; {a="2"} 5`},
		{by("min", "b"), four, `{b="x"} 3; {b="y"} 5`},
		{by("min"), "", ""},
		{by("max"), "", ""},
	})
}

// P22.2: the least and the greatest of some values, in canonical order: a NaN gives way, of noughts the first one stays.
func TestOuterValues(t *testing.T) {
	for _, c := range []struct {
		values     []float64
		least, top float64
	}{
		{[]float64{3}, 3, 3},
		{[]float64{2, 3, 1}, 1, 3},
		{[]float64{1, 3, 2}, 1, 3},
		{[]float64{3, 1, 2}, 1, 3},
		{[]float64{nan}, nan, nan},
		{[]float64{nan, nan}, nan, nan},
		{[]float64{nan, 1}, 1, 1},
		{[]float64{1, nan}, 1, 1},
		{[]float64{2, nan, 1}, 1, 2},
		{[]float64{1, nan, 2}, 1, 2},
		{[]float64{nan, 2, nan, 1, nan}, 1, 2},
		{[]float64{nan, nan, 0}, 0, 0},
		{[]float64{nan, inf}, inf, inf},
		{[]float64{nan, -inf}, -inf, -inf},
		{[]float64{-inf, nan, inf}, -inf, inf},
		{[]float64{inf, -inf}, -inf, inf},
		{[]float64{0, minus}, 0, 0},
		{[]float64{minus, 0}, minus, minus},
		{[]float64{nan, minus, 0}, minus, minus},
		{[]float64{1, minus, 0, -1}, -1, 1},
		{[]float64{1, minus, 0}, minus, 1},
		{[]float64{-1, 0, minus}, -1, 0},
		{[]float64{least, 0, -least}, -least, least},
		{[]float64{greatest, -greatest, nan}, -greatest, greatest},
	} {
		v := line(c.values...)
		for _, handed := range [][]api.Elem{v, backward(v)} {
			got, e := gather.Gather(by("min"), handed)
			verify(t, by("min"), handed, got, e, []api.Elem{{V: c.least}}, 0)
			got, e = gather.Gather(by("max"), handed)
			verify(t, by("max"), handed, got, e, []api.Elem{{V: c.top}}, 0)
		}
	}
}

// P22.2: all lists of at most four out of few values, by the words.
func TestOuterSmall(t *testing.T) {
	values := []float64{nan, 0, minus, 1, -inf}
	lists := [][]float64{nil}
	for from := 0; len(lists[from]) < 4; from++ {
		for _, x := range values {
			lists = append(lists, append(slices.Clone(lists[from]), x))
		}
	}
	for _, l := range lists {
		for _, op := range []string{"min", "max", "count", "group"} {
			check(t, by(op), line(l...))
		}
	}
}

// P22.2: values by two, of each float at which things end.
func TestOuterPairs(t *testing.T) {
	for _, a := range special() {
		for _, b := range special() {
			check(t, by("min"), line(a, b))
			check(t, by("max"), line(a, b))
		}
	}
}

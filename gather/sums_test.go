package gather_test

import (
	"fmt"
	"math"
	"testing"

	"weir/api"
	"weir/gather"
)

// The chapter's vector.
const four = `{a="2",b="y"} 5; {a="1",b="x"} 3; {a="1",b="y"} NaN; {a="2",b="x"} 5`

// P22.1: the chapter's examples of sums, and such as tell the five apart.
func TestSumsExamples(t *testing.T) {
	const five = `{n="1"} 1; {n="2"} 2; {n="3"} 3; {n="4"} 4; {n="5"} 10`
	checkRows(t, []row{
		{by("sum", "a"), four, `{a="1"} NaN; {a="2"} 10`},
		{by("sum"), "", ""},
		{by("sum"), five, `{} 20`},
		{by("avg"), five, `{} 4`},
		{by("stdvar"), five, `{} 10`},
		{by("stddev"), five, `{} 3.1622776601683795`},
		{of(0.5, by("quantile")), five, `{} 3`},
		{of(0.875, by("quantile")), five, `{} 7`},
		{of(0, by("quantile")), five, `{} 1`},
		{of(1, by("quantile")), five, `{} 10`},
		{of(-0.001, by("quantile")), five, `{} -Inf`},
		{of(1.001, by("quantile")), five, `{} +Inf`},
		{of(nan, by("quantile")), five, `{} NaN`},
		{of(inf, by("quantile")), five, `{} +Inf`},
		{of(0.5, by("quantile", "n")), five, five},
		{by("avg", "b"), four, `{b="x"} 4; {b="y"} NaN`},
		{by("stdvar", "b"), four, `{b="x"} 1; {b="y"} NaN`},
		{by("stddev", "b"), `{a="1",b="x"} 3; {a="2",b="x"} 7`, `{b="x"} 2`},
		{of(0.25, by("quantile", "b")), four, `{b="x"} 3.5; {b="y"} NaN`},
		{of(0.75, without("quantile", "a")), four, `{b="x"} 4.5; {b="y"} NaN`},
		{by("sum"), `a -0; b -0`, `{} 0`},
		{by("avg"), `a +Inf; b 1`, `{} +Inf`},
		{by("sum"), `a +Inf; b -Inf`, `{} NaN`},
		{by("stdvar"), `a 7`, `{} 0`},
		{by("stddev"), `a +Inf`, `{} NaN`},
		{of(0.5, by("quantile")), `a -0; b 0; c 1`, `{} 0`},
		{of(0.5, by("quantile")), `a 0; b 1; c -0`, `{} -0`},
	})
}

// P22.1: what rounding loses is kept beside the sum, and the values are taken in canonical order, however they are handed in.
func TestSumsOrder(t *testing.T) {
	for _, c := range []struct {
		op     string
		values []float64
		want   float64
	}{
		{"sum", []float64{1, 1e100, 1, -1e100}, 2},
		{"avg", []float64{1, 1e100, 1, -1e100}, 0.5},
		{"sum", []float64{greatest, greatest, -greatest}, inf},
		{"sum", []float64{greatest, -greatest, greatest}, greatest},
		{"sum", []float64{-greatest, greatest, greatest}, greatest},
		{"avg", []float64{greatest, greatest}, greatest},
		{"avg", []float64{greatest, -greatest, 3}, 1},
		{"sum", []float64{0.1, 0.2, 0.3, 0.4, 0.5, 0.6, 0.7}, 2.8},
	} {
		v := line(c.values...)
		want := []api.Elem{{V: c.want}}
		orders := permuted(v)
		for _, handed := range append(orders[:min(200, len(orders))], backward(v)) {
			got, e := gather.Gather(by(c.op), handed)
			verify(t, by(c.op), handed, got, e, want, 0)
		}
	}
}

// P22.1 to P22.3: group labels by names, and without them; the name is a label as others are, but is never left by without.
func TestGroupLabels(t *testing.T) {
	const v = `up{a="1",b="x"} 1; up{a="2",b="x"} 2; down{a="1",c="z"} 4; {b="x"} 8; {A="1",b="y"} 16; {} 32`
	checkRows(t, []row{
		{by("sum"), v, `{} 63`},
		{without("sum"), v, `{} 32; {A="1",b="y"} 16; {a="1",b="x"} 1; {a="1",c="z"} 4; {a="2",b="x"} 2; {b="x"} 8`},
		{by("sum", "a"), v, `{} 56; {a="1"} 5; {a="2"} 2`},
		{without("sum", "a"), v, `{} 32; {A="1",b="y"} 16; {b="x"} 11; {c="z"} 4`},
		{by("sum", "b"), v, `{} 36; {b="x"} 11; {b="y"} 16`},
		{by("sum", "b", "a"), v, `{} 32; {a="1"} 4; {a="1",b="x"} 1; {a="2",b="x"} 2; {b="x"} 8; {b="y"} 16`},
		{by("sum", "a", "b", "b", "a"), v, `{} 32; {a="1"} 4; {a="1",b="x"} 1; {a="2",b="x"} 2; {b="x"} 8; {b="y"} 16`},
		{without("sum", "b", "a", "b"), v, `{} 43; {A="1"} 16; {c="z"} 4`},
		{by("sum", "__name__"), v, `{} 56; {__name__="down"} 4; {__name__="up"} 3`},
		{by("sum", "a", "__name__"), v, `{} 56; {__name__="down",a="1"} 4; {__name__="up",a="1"} 1; {__name__="up",a="2"} 2`},
		{without("sum", "__name__", "a", "b"), v, `{} 43; {A="1"} 16; {c="z"} 4`},
		{without("sum", "A", "a", "b", "c"), v, `{} 63`},
		{by("sum", "d", "aa", "", "0", "a:b", "\xff"), v, `{} 63`},
		{without("sum", "d", "B", "", "0", "a:b", "\xff", "b"), v, `{} 40; {A="1"} 16; {a="1"} 1; {a="1",c="z"} 4; {a="2"} 2`},
		{by("sum", "A", "b", "c"), v, `{} 32; {A="1",b="y"} 16; {b="x"} 11; {c="z"} 4`},
	})
}

// names: lists of names, each of which groups a small vector in its own way.
func names() [][]string {
	return [][]string{nil, {"a"}, {"b", "A"}, {"__name__"}, {"a", "__name__"}, {"A", "a", "b"}, {"1", "a:b"}}
}

// gatherings: each aggregation, with each of those lists of names, by and without.
func gatherings() []api.Gathering {
	var out []api.Gathering
	for _, op := range ops() {
		for _, list := range names() {
			for _, g := range []api.Gathering{by(op, list...), without(op, list...)} {
				out = append(out, into("a", of(0.5, g)), into("v", of(1, g)), into("__name__", of(2, g)))
			}
		}
	}
	return out
}

// sets: label sets with which names, and signs ahead of the name and behind it, play together.
func sets() [][]api.Label {
	return [][]api.Label{nil, set("__name__", "up"), set("__name__", "down"), set("a", "1"), set("__name__", "up", "a", "1"), set("A", "1", "__name__", "up"), set("A", "1"), set("a", "1", "b", "1"), set("__name__", "up", "a", "2")}
}

// vectors: all vectors of at most that many of those sets, in one order each.
func vectors(most int) [][]api.Elem {
	all := [][]api.Elem{nil}
	for i, ls := range sets() {
		for _, v := range all {
			if len(v) < most {
				all = append(all, append(v[:len(v):len(v)], api.Elem{Labels: ls, V: []float64{1, nan, 3, 0.1, 1, minus, 3, 0.1, 0}[i]}))
			}
		}
	}
	return all
}

// P22.1 to P22.3: all small vectors, by the words.
func TestSmall(t *testing.T) {
	answered := 0
	for _, v := range vectors(3) {
		for _, g := range gatherings() {
			if check(t, g, v) == 0 {
				answered++
			}
		}
	}
	if answered < 50000 {
		t.Errorf("%d calls were answered", answered)
	}
}

// P22.1 to P22.3: vectors and gatherings by chance, by the words.
func TestByChance(t *testing.T) {
	c, seen := newChance(1), map[string]int{}
	for i := range 60000 {
		g, v := c.gathering(i%2 == 0), c.vector(2+i%24, i%2 == 0)
		e := check(t, g, v)
		seen[fmt.Sprint(int(e))]++
		if e == 0 {
			seen[g.Op]++
		}
	}
	for _, what := range append(ops(), "0", "5", "7") {
		if seen[what] < 1000 {
			t.Errorf("the answers were %v", seen)
		}
	}
	if seen["2"] < 200 {
		t.Errorf("the answers were %v", seen)
	}
}

// P22.1: each float at which things end, alone and beside another one.
func TestSumsValues(t *testing.T) {
	for _, a := range special() {
		for _, b := range special() {
			for _, op := range ops()[:4] {
				check(t, by(op), line(a, b))
			}
			check(t, of(b, by("quantile")), line(1, a, 2))
		}
	}
	for _, v := range special() {
		got, e := gather.Gather(by("sum"), line(v))
		want := v
		if v == 0 {
			want = 0
		}
		verify(t, by("sum"), line(v), got, e, []api.Elem{{V: want}}, 0)
		got, e = gather.Gather(by("stdvar"), line(v))
		want = 0
		if math.IsInf(v, 0) || v != v {
			want = nan
		}
		verify(t, by("stdvar"), line(v), got, e, []api.Elem{{V: want}}, 0)
	}
}

// P22.1 to P22.3: vectors that aren't sound, in each way; ErrVector comes ahead of all other errors.
func TestNotSound(t *testing.T) {
	for _, base := range []string{"", `up 1`, `up 1; down 2; {a="1"} 3`} {
		for _, v := range spoilt(vec(base)) {
			for _, op := range append(ops(), "", "Sum", "?") {
				for _, text := range []string{"v", "", "1"} {
					g := into(text, of(0.5, by(op, "a")))
					got, e := gather.Gather(g, v)
					verify(t, g, v, got, e, nil, api.ErrVector)
				}
			}
		}
	}
}

// P22.1 to P22.3: texts that are no aggregation, whatever else is asked, of no elements too.
func TestKind(t *testing.T) {
	for _, op := range wrongOps() {
		for _, text := range []string{"", `up 1`, `up 1; down 2`} {
			for _, name := range []string{"v", "", "1"} {
				g := into(name, of(1, by(op, "a")))
				got, e := gather.Gather(g, vec(text))
				verify(t, g, vec(text), got, e, nil, api.ErrKind)
			}
		}
	}
}

// P22.1 to P22.3: what an aggregation doesn't use isn't looked at.
func TestNotUsed(t *testing.T) {
	v := vec(`up{a="1",b="x"} 3; down{a="1"} 0.1; {b="x"} NaN; {a="2",b="x"} -7; {a="2",b="y"} 3`)
	for _, op := range ops() {
		for _, g := range []api.Gathering{by(op, "a"), without(op, "b")} {
			g = into("v", of(0.5, g))
			want, _ := wordsGather(g, v)
			for _, param := range special() {
				if op == "quantile" || op == "topk" || op == "bottomk" {
					break
				}
				got, e := gather.Gather(of(param, g), v)
				verify(t, of(param, g), v, got, e, want, 0)
			}
			for _, text := range append(wrongTexts(), "a", "b", "__name__") {
				if op == "count_values" {
					break
				}
				got, e := gather.Gather(into(text, g), v)
				verify(t, into(text[:min(9, len(text))], g), v, got, e, want, 0)
			}
		}
	}
}

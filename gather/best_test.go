package gather_test

import (
	"math"
	"strings"
	"testing"

	"weir/api"
	"weir/gather"
)

// P22.3: the chapter's examples of topk and bottomk, and such as tell the groups, the order and the names.
func TestBestExamples(t *testing.T) {
	const all = `{a="1",b="x"} 3; {a="1",b="y"} NaN; {a="2",b="x"} 5; {a="2",b="y"} 5`
	const up = `up{a="1"} 1; up{a="2"} 2; down{a="1"} 4; down{a="2"} 3; {b="x"} NaN`
	checkRows(t, []row{
		{of(1, by("topk", "a")), four, `{a="1",b="x"} 3; {a="2",b="x"} 5`},
		{of(3, by("bottomk")), four, `{a="1",b="x"} 3; {a="2",b="x"} 5; {a="2",b="y"} 5`},
		{of(nan, by("topk")), four, ""},
		{of(0.9, by("topk")), four, ""},
		{of(1, by("topk")), four, `{a="2",b="x"} 5`},
		{of(2, by("topk")), four, `{a="2",b="x"} 5; {a="2",b="y"} 5`},
		{of(3, by("topk")), four, `{a="1",b="x"} 3; {a="2",b="x"} 5; {a="2",b="y"} 5`},
		{of(4, by("topk")), four, all},
		{of(5, by("topk")), four, all},
		{of(1, by("bottomk")), four, `{a="1",b="x"} 3`},
		{of(2, by("bottomk")), four, `{a="1",b="x"} 3; {a="2",b="x"} 5`},
		{of(4, by("bottomk")), four, all},
		{of(2, by("topk", "b")), four, all},
		{of(1, without("bottomk", "a")), four, `{a="1",b="x"} 3; {a="2",b="y"} 5`},
		{of(1, by("topk")), up, `down{a="1"} 4`},
		{of(1, by("bottomk")), up, `up{a="1"} 1`},
		{of(1, by("topk", "a")), up, `down{a="1"} 4; down{a="2"} 3; {b="x"} NaN`},
		{of(1, by("bottomk", "a")), up, `up{a="1"} 1; up{a="2"} 2; {b="x"} NaN`},
		{of(1, by("topk", "__name__")), up, `down{a="1"} 4; up{a="2"} 2; {b="x"} NaN`},
		{of(1, without("topk")), up, `down{a="1"} 4; down{a="2"} 3; {b="x"} NaN`},
		{of(1, without("topk", "a", "b")), up, `down{a="1"} 4`},
		{of(9, by("topk")), "", ""},
	})
}

// P22.3: which of some values come, in canonical order, as k grows: a NaN last, of equal ones the first.
func TestBestOrder(t *testing.T) {
	for _, c := range []struct {
		values      []float64
		top, bottom []int // the places in the order in which they come
	}{
		{[]float64{1, 2, 3}, []int{2, 1, 0}, []int{0, 1, 2}},
		{[]float64{3, 1, 2}, []int{0, 2, 1}, []int{1, 2, 0}},
		{[]float64{nan, 1, nan, 2}, []int{3, 1, 0, 2}, []int{1, 3, 0, 2}},
		{[]float64{5, 5, 5}, []int{0, 1, 2}, []int{0, 1, 2}},
		{[]float64{minus, 0, minus, 0}, []int{0, 1, 2, 3}, []int{0, 1, 2, 3}},
		{[]float64{0, minus, 1, -1}, []int{2, 0, 1, 3}, []int{3, 0, 1, 2}},
		{[]float64{nan, -inf, inf, nan, 0}, []int{2, 4, 1, 0, 3}, []int{1, 4, 2, 0, 3}},
		{[]float64{nan, nan, nan}, []int{0, 1, 2}, []int{0, 1, 2}},
		{[]float64{-least, least, 0}, []int{1, 2, 0}, []int{0, 2, 1}},
		{[]float64{2, 1, 2, 1, 2, 1}, []int{0, 2, 4, 1, 3, 5}, []int{1, 3, 5, 0, 2, 4}},
	} {
		v := line(c.values...)
		for k := range len(v) + 3 {
			for op, places := range map[string][]int{"topk": c.top, "bottomk": c.bottom} {
				chosen := map[int]bool{}
				for _, i := range places[:min(k, len(places))] {
					chosen[i] = true
				}
				var want []api.Elem
				for i, x := range v {
					if chosen[i] {
						want = append(want, x)
					}
				}
				g := of(float64(k), by(op))
				for _, handed := range [][]api.Elem{v, backward(v)} {
					got, e := gather.Gather(g, handed)
					verify(t, g, handed, got, e, want, 0)
				}
			}
		}
	}
}

// P22.3: how many come, for each parameter at which that changes.
func TestBestMany(t *testing.T) {
	const all = 1000
	for _, c := range []struct {
		param float64
		want  int
	}{
		{nan, 0}, {inf, all}, {-inf, 0}, {0, 0}, {minus, 0}, {least, 0}, {-least, 0}, {0.5, 0}, {-0.5, 0}, {math.Nextafter(1, 0), 0}, {1, 1}, {math.Nextafter(1, 2), 1}, {1.999, 1}, {math.Nextafter(2, 0), 1}, {2, 2}, {-1, 0}, {-2, 0}, {-1.5, 0},
		{998.9, 998}, {999, 999}, {999.9, 999}, {1000, all}, {1000.5, all}, {1001, all}, {1 << 31, all}, {1<<31 - 1, all}, {1 << 32, all}, {1<<32 + 1, all}, {1 << 53, all}, {1 << 62, all}, {math.Nextafter(1<<63, 0), all}, {1 << 63, all}, {math.Nextafter(1<<63, inf), all}, {1 << 64, all}, {1<<64 + 1<<12, all}, {greatest, all},
		{-999, 0}, {-1 << 31, 0}, {-1 << 32, 0}, {-1<<32 + 1, 0}, {-1 << 53, 0}, {-1 << 63, 0}, {math.Nextafter(-1<<63, -inf), 0}, {-1 << 64, 0}, {-greatest, 0},
	} {
		v := line(make([]float64, all)...)
		for _, op := range []string{"topk", "bottomk"} {
			got, e := gather.Gather(of(c.param, by(op)), v)
			if e != 0 || !sameElems(got, v[:c.want]) {
				t.Errorf("%s of %v: %d elements, %d", op, c.param, len(got), e)
			}
		}
	}
	for _, param := range special() {
		for n := range 5 {
			check(t, of(param, by("topk")), line(nan, 2, 1, 3)[:n])
			check(t, of(param, by("bottomk")), line(nan, 2, 1, 3)[:n])
		}
	}
}

// P22.3: the chapter's examples of count_values, and such as tell the texts, the groups that fall together, and the label that gives way.
func TestValuesExamples(t *testing.T) {
	const up = `up{a="1"} 1; up{a="2"} 1; down{a="1"} 2; down{a="2"} 1; {b="x"} 1`
	checkRows(t, []row{
		{into("v", by("count_values")), four, `{v="3"} 1; {v="5"} 2; {v="NaN"} 1`},
		{into("a", by("count_values", "a")), four, `{a="3"} 1; {a="5"} 2; {a="NaN"} 1`},
		{into("v", by("count_values")), "", ""},
		{into("v", by("count_values", "a")), four, `{a="1",v="3"} 1; {a="1",v="NaN"} 1; {a="2",v="5"} 2`},
		{into("b", by("count_values", "a")), four, `{a="1",b="3"} 1; {a="1",b="NaN"} 1; {a="2",b="5"} 2`},
		{into("b", without("count_values", "a")), four, `{b="3"} 1; {b="5"} 2; {b="NaN"} 1`},
		{into("b", without("count_values", "b")), four, `{a="1",b="3"} 1; {a="1",b="NaN"} 1; {a="2",b="5"} 2`},
		{into("A", without("count_values")), four, `{A="3",a="1",b="x"} 1; {A="5",a="2",b="x"} 1; {A="5",a="2",b="y"} 1; {A="NaN",a="1",b="y"} 1`},
		{into("aa", without("count_values")), four, `{a="1",aa="3",b="x"} 1; {a="1",aa="NaN",b="y"} 1; {a="2",aa="5",b="x"} 1; {a="2",aa="5",b="y"} 1`},
		{into("__name__", by("count_values")), up, `{__name__="1"} 4; {__name__="2"} 1`},
		{into("__name__", by("count_values", "__name__", "a")), up, `{__name__="1"} 1; {__name__="1",a="1"} 1; {__name__="1",a="2"} 2; {__name__="2",a="1"} 1`},
		{into("__name__", without("count_values", "a")), up, `{__name__="1"} 3; {__name__="1",b="x"} 1; {__name__="2"} 1`},
		{into("v", without("count_values", "a")), up, `{b="x",v="1"} 1; {v="1"} 3; {v="2"} 1`},
		{into("v", by("count_values", "v")), `{v="7"} 1; {v="8"} 1; {v="1"} 7`, `{v="1"} 2; {v="7"} 1`},
		{into("v", by("count_values")), `a 0; b -0; c +Inf; d -Inf; e 0.1; f -1e-7; g 1e21; h NaN; i -0; j 0.10`, `{v="+Inf"} 1; {v="-0"} 2; {v="-0.0000001"} 1; {v="-Inf"} 1; {v="0"} 1; {v="0.1"} 2; {v="1000000000000000000000"} 1; {v="NaN"} 1`},
	})
}

// P22.3: each float at which things end as a text of a label, whole.
func TestValuesTexts(t *testing.T) {
	for _, a := range special() {
		for _, b := range special() {
			check(t, into("v", by("count_values")), line(a, b))
		}
	}
	got, e := gather.Gather(into("v", by("count_values")), line(least))
	if e != 0 || len(got) != 1 || got[0].Labels[0].Value != "0."+strings.Repeat("0", 323)+"5" {
		t.Errorf("the least number's label: %s%d", told(got), e)
	}
}

// P22.3: names that values may have, and texts that aren't a label's name, of no elements too.
func TestValuesName(t *testing.T) {
	for _, name := range []string{"v", "_", "__", "__name__", "A9", "z_Z_0", "by", "inf", "nan", "sum", "le", strings.Repeat("a", 1<<16)} {
		g := into(name, by("count_values", "a"))
		if e := check(t, g, vec(four)); e != 0 {
			t.Errorf("%.20q: %d", name, e)
		}
		got, e := gather.Gather(g, nil)
		verify(t, g, nil, got, e, nil, 0)
	}
	for _, name := range wrongTexts() {
		for _, text := range []string{"", `up 1`, four} {
			g := into(name, by("count_values", "a"))
			got, e := gather.Gather(g, vec(text))
			verify(t, into(name[:min(9, len(name))], g), vec(text), got, e, nil, api.ErrArg)
		}
	}
}

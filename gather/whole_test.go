package gather_test

import (
	"slices"
	"testing"

	"weir/api"
	"weir/gather"
)

// answered: an answer that must be there.
func answered(t *testing.T, g api.Gathering, v []api.Elem) []api.Elem {
	t.Helper()
	got, e := gather.Gather(g, v)
	if e != 0 {
		t.Fatalf("%+v of %s: %d", g, told(v), e)
	}
	return got
}

func total(v []api.Elem) int {
	n := 0
	for _, x := range v {
		n += int(x.V)
	}
	return n
}

func labelsOf(v []api.Elem) [][]api.Label {
	var out [][]api.Label
	for _, x := range v {
		out = append(out, x.Labels)
	}
	return out
}

// with: the same gathering by another aggregation.
func with(op string, g api.Gathering) api.Gathering {
	g.Op = op
	return g
}

// P22.4: counts add up to the number of elements, and the label sets of each aggregation that brings groups down are those of group, one for each group that there is.
func TestEachCountsOnce(t *testing.T) {
	c, many := newChance(2), 0
	for range 6000 {
		g, v := c.gathering(false), c.vector(20, false)
		groups := labelsOf(answered(t, with("group", g), v))
		for _, op := range []string{"count", "count_values"} {
			if n := total(answered(t, with(op, g), v)); n != len(v) {
				t.Fatalf("%s by %+v of %d elements adds up to %d", op, g, len(v), n)
			}
		}
		for _, op := range ops()[:9] {
			if got := labelsOf(answered(t, with(op, g), v)); !slices.EqualFunc(got, groups, slices.Equal) {
				t.Fatalf("%s by %+v of %s has the label sets %q; those of group are %q", op, g, told(v), got, groups)
			}
		}
		if n := len(wordsGroups(with("group", g), v)); n != len(groups) {
			t.Fatalf("%d groups; there are %d", len(groups), n)
		}
		if len(groups) > 3 {
			many++
		}
	}
	if many < 1000 {
		t.Errorf("%d times there were many groups", many)
	}
}

// P22.5: nothing that topk leaves out is larger than what it answers (of bottomk: smaller), and a NaN comes only where all numbers do; both answer equally many elements of each group, as they are in the vector.
func TestWhatIsBest(t *testing.T) {
	c, left := newChance(3), 0
	for range 6000 {
		g, v := c.gathering(false), c.vector(20, false)
		top, bottom := answered(t, with("topk", g), v), answered(t, with("bottomk", g), v)
		for _, group := range wordsGroups(with("group", g), v) {
			n := len(among(group, top))
			if n != len(among(group, bottom)) || n != wordsMost(g.Param, len(group)) {
				t.Fatalf("%+v: topk and bottomk answer %d and %d of %s", g, n, len(among(group, bottom)), told(group))
			}
			for i, chosen := range [][]api.Elem{among(group, top), among(group, bottom)} {
				for _, out := range among(group, v) {
					if !isAmong(out, chosen) && beaten(out, chosen, []float64{1, -1}[i]) {
						t.Fatalf("%+v of %s answers %s", g, told(group), told(chosen))
					}
				}
				if n > 0 && n < len(group) {
					left++
				}
			}
		}
		if len(among(top, v)) != len(top) || len(among(bottom, v)) != len(bottom) {
			t.Fatalf("%+v of %s answers others: %s and %s", g, told(v), told(top), told(bottom))
		}
	}
	if left < 2000 {
		t.Errorf("%d groups had more elements than came", left)
	}
}

// among: those elements of v that stand in another vector too.
func among(v, other []api.Elem) []api.Elem {
	return slices.DeleteFunc(slices.Clone(v), func(x api.Elem) bool { return !isAmong(x, other) })
}

func isAmong(x api.Elem, v []api.Elem) bool {
	return slices.ContainsFunc(v, func(y api.Elem) bool { return slices.Equal(x.Labels, y.Labels) && same(x.V, y.V) })
}

// beaten: should an element that was left out have come ahead of one that was chosen? sign: 1, if the larger comes ahead, else -1.
func beaten(out api.Elem, chosen []api.Elem, sign float64) bool {
	return slices.ContainsFunc(chosen, func(x api.Elem) bool {
		return out.V*sign > x.V*sign || out.V == out.V && x.V != x.V
	})
}

// P22.6: without the elements of some groups the answer lacks just what they gave to it.
func TestGroupsApart(t *testing.T) {
	c, some := newChance(4), 0
	for range 20000 {
		g, v := c.gathering(false), c.vector(20, false)
		groups := wordsGroups(g, v)
		var staying, gone, parts []api.Elem
		for _, group := range groups {
			if c.yes() {
				gone = append(gone, group...)
				continue
			}
			staying = append(staying, group...)
			parts = append(parts, answered(t, g, group)...)
		}
		c.dice.Shuffle(len(staying), func(i, j int) { staying[i], staying[j] = staying[j], staying[i] })
		whole, rest, other := answered(t, g, v), answered(t, g, staying), answered(t, g, gone)
		if !sameElems(rest, canonical(parts)) || !sameElems(whole, canonical(slices.Concat(rest, other))) {
			t.Fatalf("%+v of %s = %s; without some groups, %s, it is %s", g, told(v), told(whole), told(gone), told(rest))
		}
		if len(rest) > 0 && len(other) > 0 {
			some++
		}
	}
	if some < 2000 {
		t.Errorf("%d times groups were gone and others stayed", some)
	}
}

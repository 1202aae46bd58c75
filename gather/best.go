package gather

import (
	"math"
	"slices"

	"weir/api"
	"weir/num"
	"weir/pile"
)

// best: of each group its first elements by that order, as many as param says, in the order of the vector.
func best(v []api.Elem, group labeller, param float64, ahead func(a, b float64) bool) []api.Elem {
	var places []int
	for _, members := range grouped(v, group) {
		for _, m := range pile.Best(members, most(param, len(members)), numbersFirst(ahead)) {
			places = append(places, m.place)
		}
	}
	slices.Sort(places)
	var out []api.Elem
	for _, i := range places {
		out = append(out, v[i])
	}
	return out
}

// numbersFirst: the order of members by their values, in which every NaN stands behind all else.
func numbersFirst(ahead func(a, b float64) bool) func(a, b member) bool {
	return func(a, b member) bool {
		if math.IsNaN(b.v) {
			return !math.IsNaN(a.v)
		}
		return ahead(a.v, b.v)
	}
}

// most: how many of n elements param asks for.
func most(param float64, n int) int {
	k, ok := num.ToInt(param)
	switch {
	case ok:
		return int(max(0, min(k, int64(n))))
	case param > 0:
		return n
	}
	return 0
}

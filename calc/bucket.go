package calc

import (
	"math"
	"slices"

	"weir/api"
	"weir/num"
)

const fewestBuckets = 2

// Buckets: the q-quantile of a histogram.
func Buckets(q float64, bs []api.Bucket) float64 {
	if !isPart(q) {
		return beyondParts(q)
	}
	steps := joined(inOrder(bs))
	last := len(steps) - 1
	if len(steps) < fewestBuckets || !math.IsInf(steps[last].Upper, 1) {
		return math.NaN()
	}
	raise(steps)
	all := steps[last].Count
	if !(all > 0) {
		return math.NaN()
	}
	return atRank(steps, float64(q*all))
}

// inOrder: the buckets that have an upper bound, in its rising order, as a new list.
func inOrder(bs []api.Bucket) []api.Bucket {
	var out []api.Bucket
	for _, b := range bs {
		if !math.IsNaN(b.Upper) {
			out = append(out, b)
		}
	}
	slices.SortStableFunc(out, func(a, b api.Bucket) int { return num.Order(a.Upper, b.Upper) })
	return out
}

// joined: the buckets, those of one upper bound made one. They stand in its order.
func joined(bs []api.Bucket) []api.Bucket {
	var out []api.Bucket
	for _, b := range bs {
		last := len(out) - 1
		if last >= 0 && out[last].Upper == b.Upper {
			out[last].Count += b.Count
		} else {
			out = append(out, b)
		}
	}
	return out
}

// raise lifts each count that has fallen behind one ahead of it: a running sum can't fall.
func raise(steps []api.Bucket) {
	greatest := steps[0].Count
	for i := range steps {
		if steps[i].Count < greatest {
			steps[i].Count = greatest
		} else if steps[i].Count > greatest {
			greatest = steps[i].Count
		}
	}
}

// atRank: the value up to which rank of the things counted lie, by a straight line within its bucket.
func atRank(steps []api.Bucket, rank float64) float64 {
	last := len(steps) - 1
	at := slices.IndexFunc(steps[:last], func(b api.Bucket) bool { return b.Count >= rank })
	if at < 0 { // the last bucket has no end to reckon with
		return steps[last-1].Upper
	}
	if at == 0 && steps[0].Upper <= 0 { // nor has this one a beginning
		return steps[0].Upper
	}
	var below api.Bucket
	if at > 0 {
		below = steps[at-1]
	}
	count := steps[at].Count - below.Count
	return below.Upper + float64((steps[at].Upper-below.Upper)*((rank-below.Count)/count))
}

package fns

import (
	"math"
	"slices"

	"weir/api"
	"weir/calc"
	"weir/labels"
	"weir/num"
)

// upperLabel holds a bucket's upper bound.
const upperLabel = "le"

// A step is a bucket with the labels of its histogram.
type step struct {
	of     []api.Label
	bucket api.Bucket
}

// quantiles: an element for each histogram in a vector in canonical order.
func quantiles(q float64, v []api.Elem) []api.Elem {
	steps := stepsOf(v)
	var out []api.Elem
	var buckets []api.Bucket
	for i, s := range steps {
		buckets = append(buckets, s.bucket)
		if i+1 == len(steps) || labels.Compare(s.of, steps[i+1].of) != 0 {
			out = append(out, api.Elem{Labels: s.of, V: calc.Buckets(q, buckets)})
			buckets = nil
		}
	}
	return out
}

// stepsOf: the elements that are buckets, histogram by histogram in canonical order; within one they stand as they stood.
func stepsOf(v []api.Elem) []step {
	var steps []step
	for _, el := range v {
		if upper, ok := num.Parse(labels.Get(el.Labels, upperLabel)); ok {
			of := labels.Keep(el.Labels, []string{upperLabel}, true)
			steps = append(steps, step{of, api.Bucket{Upper: upper, Count: el.V}})
		}
	}
	slices.SortStableFunc(steps, func(a, b step) int { return labels.Compare(a.of, b.of) })
	return steps
}

// byValue: the elements of a vector in canonical order, sorted by their values. The vector is the caller's own.
func byValue(v []api.Elem, down bool) []api.Elem {
	slices.SortStableFunc(v, func(a, b api.Elem) int {
		if down || math.IsNaN(a.V) || math.IsNaN(b.V) { // num.Order has a NaN ahead of all else
			return num.Order(b.V, a.V)
		}
		return num.Order(a.V, b.V)
	})
	return v
}

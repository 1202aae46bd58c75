package fns

import (
	"math"
	"slices"

	"weir/api"
	"weir/labels"
	"weir/span"
)

const (
	halfTurn   = 180 // degrees
	milli      = 1000
	firstStart = api.MinTime / milli // the first second of the calendar
	lastStart  = api.MaxTime / milli // and the last one, whose end is cut off
)

// turned: the elements without the name, each value turned.
func turned(v []api.Elem, turn func(v float64) float64) ([]api.Elem, api.Errno) {
	out := make([]api.Elem, 0, len(v))
	for _, el := range v {
		out = append(out, api.Elem{Labels: labels.Keep(el.Labels, []string{api.MetricName}, true), V: turn(el.V)})
	}
	return ordered(out)
}

// ordered: elements in canonical order. Their labels are label sets; the vector is the caller's own.
func ordered(v []api.Elem) ([]api.Elem, api.Errno) {
	slices.SortFunc(v, func(a, b api.Elem) int { return labels.Compare(a.Labels, b.Labels) })
	for i := range v {
		if i > 0 && labels.Compare(v[i-1].Labels, v[i].Labels) == 0 {
			return nil, api.ErrDup
		}
	}
	return v, api.OK
}

func pi() float64 { return 3.141592653589793 }

func degrees(v float64) float64 { return float64(v*halfTurn) / pi() }

func radians(v float64) float64 { return float64(v*pi()) / halfTurn }

// sign: a nought and a NaN have none of their own, and stay.
func sign(v float64) float64 {
	switch {
	case v < 0:
		return -1
	case v > 0:
		return 1
	}
	return v
}

func clamped(v, lo, hi float64) float64 {
	switch {
	case math.IsNaN(v) || math.IsNaN(lo) || math.IsNaN(hi):
		return math.NaN()
	case v > hi:
		return hi
	case v < lo:
		return lo
	}
	return v
}

// fieldAt: a field of the calendar at a time in seconds; a NaN, if the calendar's years don't hold it.
func fieldAt(seconds float64, field func(t api.Civil) int) float64 {
	whole := math.Floor(seconds)
	if !(whole >= firstStart && whole <= lastStart) {
		return math.NaN()
	}
	return float64(field(span.Civil(int64(whole) * milli)))
}

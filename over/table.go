package over

import (
	"weir/api"
	"weir/calc"
)

// A function is one by which a query may ask a window.
type function struct {
	name    string
	scalars int // how many numbers it takes beside the window
	least   int // how many points it asks for
	answer  func(w api.Window, args []float64) float64
}

// find: the function of that name.
func find(name string) (function, bool) {
	for _, f := range functions() {
		if f.name == name {
			return f, true
		}
	}
	return function{}, false
}

// functions: all there are, as an array, for which a call that looks for one needs no new memory. What they are handed is sound, and has as many points and numbers as they ask for.
func functions() [23]function {
	return [...]function{
		{"count_over_time", 0, 1, func(w api.Window, _ []float64) float64 { return float64(len(w.Points)) }},
		{"present_over_time", 0, 1, func(api.Window, []float64) float64 { return 1 }},
		{"first_over_time", 0, 1, func(w api.Window, _ []float64) float64 { return w.Points[0].V }},
		{"last_over_time", 0, 1, func(w api.Window, _ []float64) float64 { return w.Points[len(w.Points)-1].V }},
		{"sum_over_time", 0, 1, func(w api.Window, _ []float64) float64 { return calc.Sum(values(w.Points)) }},
		{"avg_over_time", 0, 1, func(w api.Window, _ []float64) float64 { return calc.Mean(values(w.Points)) }},
		{"stddev_over_time", 0, 1, func(w api.Window, _ []float64) float64 { return calc.Spread(values(w.Points)) }},
		{"stdvar_over_time", 0, 1, func(w api.Window, _ []float64) float64 { return calc.Variance(values(w.Points)) }},
		{"max_over_time", 0, 1, func(w api.Window, _ []float64) float64 { return highest(w.Points) }},
		{"min_over_time", 0, 1, func(w api.Window, _ []float64) float64 { return lowest(w.Points) }},
		{"quantile_over_time", 1, 1, func(w api.Window, args []float64) float64 { return calc.Quantile(args[0], values(w.Points)) }},
		{"mad_over_time", 0, 1, func(w api.Window, _ []float64) float64 { return medianDistance(values(w.Points)) }},
		{"changes", 0, 1, func(w api.Window, _ []float64) float64 { return countSteps(w.Points, isChange) }},
		{"resets", 0, 1, func(w api.Window, _ []float64) float64 { return countSteps(w.Points, isReset) }},
		{"rate", 0, twoEnds, func(w api.Window, _ []float64) float64 { return extrapolated(w, true, true) }},
		{"increase", 0, twoEnds, func(w api.Window, _ []float64) float64 { return extrapolated(w, true, false) }},
		{"delta", 0, twoEnds, func(w api.Window, _ []float64) float64 { return extrapolated(w, false, false) }},
		{"irate", 0, twoEnds, func(w api.Window, _ []float64) float64 { return instant(w.Points, true) }},
		{"idelta", 0, twoEnds, func(w api.Window, _ []float64) float64 { return instant(w.Points, false) }},
		{"deriv", 0, twoEnds, func(w api.Window, _ []float64) float64 { return slope(w.Points) }},
		{"predict_linear", 1, twoEnds, func(w api.Window, args []float64) float64 { return predicted(w, args[0]) }},
		{"double_exponential_smoothing", 2, twoEnds, func(w api.Window, args []float64) float64 { return calc.Smooth(values(w.Points), args[0], args[1]) }},
		{"beat_over_time", 1, 1, func(w api.Window, args []float64) float64 { return beat(w.Points, args[0]) }},
	}
}

package gather

import (
	"math"

	"weir/api"
	"weir/calc"
)

// A tally is a group's running sum: it takes the group's values one after the other, in canonical order, and tells what they come to.
type tally interface {
	take(v float64)
	told() float64
}

// beginning: a call that begins the running sum that g.Op asks for; nil, if it asks for none.
func beginning(g api.Gathering) func() tally {
	switch g.Op {
	case "sum":
		return overList(calc.Sum)
	case "avg":
		return overList(calc.Mean)
	case "stdvar":
		return overList(calc.Variance)
	case "stddev":
		return overList(calc.Spread)
	case "quantile":
		return overList(func(l []float64) float64 { return calc.Quantile(g.Param, l) })
	case "count", "count_values":
		return func() tally { return new(counted) }
	case "group":
		return func() tally { return there{} }
	case "min":
		return outermost(smaller)
	case "max":
		return outermost(larger)
	}
	return nil
}

// A listed tally keeps all values, for a function of the whole list.
type listed struct {
	values []float64
	of     func(l []float64) float64
}

func overList(of func(l []float64) float64) func() tally {
	return func() tally { return &listed{of: of} }
}

func (l *listed) take(v float64) { l.values = append(l.values, v) }

func (l *listed) told() float64 { return l.of(l.values) }

// A counted tally tells how many values there were.
type counted struct{ n int }

func (c *counted) take(float64) { c.n++ }

func (c *counted) told() float64 { return float64(c.n) }

// A there tally tells that there is a group at all.
type there struct{}

func (there) take(float64) {}

func (there) told() float64 { return 1 }

// An outer tally keeps the first value that none is ahead of.
type outer struct {
	kept  float64
	ahead func(a, b float64) bool
}

// outermost: a tally that keeps a NaN until it takes a value, which no NaN holds off.
func outermost(ahead func(a, b float64) bool) func() tally {
	return func() tally { return &outer{math.NaN(), ahead} }
}

func (o *outer) take(v float64) {
	if o.ahead(v, o.kept) || math.IsNaN(o.kept) {
		o.kept = v
	}
}

func (o *outer) told() float64 { return o.kept }

func larger(a, b float64) bool { return a > b }

func smaller(a, b float64) bool { return a < b }

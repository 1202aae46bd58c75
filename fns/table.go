package fns

import (
	"math"

	"weir/api"
	"weir/calc"
)

// A function is one that a query may call with instant values.
type function struct {
	name        string
	least, most int   // how many arguments it takes
	types       types // theirs
	answer      func(c call) (api.Value, api.Errno)
}

// types are those of a function's arguments. Each argument behind them has the last one's.
type types [5]int

const endless = math.MaxInt

// takes: are these arguments such as the function asks for?
func (f function) takes(args []api.Value) bool {
	if len(args) < f.least || len(args) > f.most {
		return false
	}
	for i, a := range args {
		if a.Type != f.types[min(i, len(f.types)-1)] {
			return false
		}
	}
	return true
}

// find: the function of that name.
func find(name string) (function, bool) {
	for _, f := range functions() {
		if f.name == name {
			return f, true
		}
	}
	return function{}, false
}

// functions: all there are, as an array, for which a call that looks for one needs no new memory.
func functions() [31]function {
	const scalar, text, vector = api.ValScalar, api.ValString, api.ValVector
	return [...]function{
		{"abs", 1, 1, types{vector}, func(c call) (api.Value, api.Errno) { return c.each(math.Abs) }},
		{"ceil", 1, 1, types{vector}, func(c call) (api.Value, api.Errno) { return c.each(math.Ceil) }},
		{"deg", 1, 1, types{vector}, func(c call) (api.Value, api.Errno) { return c.each(degrees) }},
		{"exp", 1, 1, types{vector}, func(c call) (api.Value, api.Errno) { return c.each(calc.Exp) }},
		{"floor", 1, 1, types{vector}, func(c call) (api.Value, api.Errno) { return c.each(math.Floor) }},
		{"ln", 1, 1, types{vector}, func(c call) (api.Value, api.Errno) { return c.each(calc.Ln) }},
		{"log10", 1, 1, types{vector}, func(c call) (api.Value, api.Errno) { return c.each(calc.Log10) }},
		{"log2", 1, 1, types{vector}, func(c call) (api.Value, api.Errno) { return c.each(calc.Log2) }},
		{"rad", 1, 1, types{vector}, func(c call) (api.Value, api.Errno) { return c.each(radians) }},
		{"sgn", 1, 1, types{vector}, func(c call) (api.Value, api.Errno) { return c.each(sign) }},
		{"sqrt", 1, 1, types{vector}, func(c call) (api.Value, api.Errno) { return c.each(math.Sqrt) }},
		{"round", 1, 2, types{vector, scalar}, func(c call) (api.Value, api.Errno) { return c.round() }},
		{"clamp", 3, 3, types{vector, scalar, scalar}, func(c call) (api.Value, api.Errno) { return c.clamp() }},
		{"clamp_max", 2, 2, types{vector, scalar}, func(c call) (api.Value, api.Errno) { return c.within(math.Inf(-1), c.args[1].V) }},
		{"clamp_min", 2, 2, types{vector, scalar}, func(c call) (api.Value, api.Errno) { return c.within(c.args[1].V, math.Inf(1)) }},
		{"day_of_month", 0, 1, types{vector}, func(c call) (api.Value, api.Errno) { return c.calendar(func(t api.Civil) int { return t.Day }) }},
		{"day_of_week", 0, 1, types{vector}, func(c call) (api.Value, api.Errno) { return c.calendar(func(t api.Civil) int { return t.Weekday }) }},
		{"day_of_year", 0, 1, types{vector}, func(c call) (api.Value, api.Errno) { return c.calendar(func(t api.Civil) int { return t.YearDay }) }},
		{"days_in_month", 0, 1, types{vector}, func(c call) (api.Value, api.Errno) { return c.calendar(func(t api.Civil) int { return t.MonthDays }) }},
		{"hour", 0, 1, types{vector}, func(c call) (api.Value, api.Errno) { return c.calendar(func(t api.Civil) int { return t.Hour }) }},
		{"minute", 0, 1, types{vector}, func(c call) (api.Value, api.Errno) { return c.calendar(func(t api.Civil) int { return t.Minute }) }},
		{"month", 0, 1, types{vector}, func(c call) (api.Value, api.Errno) { return c.calendar(func(t api.Civil) int { return t.Month }) }},
		{"year", 0, 1, types{vector}, func(c call) (api.Value, api.Errno) { return c.calendar(func(t api.Civil) int { return t.Year }) }},
		{"histogram_quantile", 2, 2, types{scalar, vector}, func(c call) (api.Value, api.Errno) { return vectorOf(quantiles(c.args[0].V, c.vector), api.OK) }},
		{"label_join", 3, endless, types{vector, text, text, text, text}, func(c call) (api.Value, api.Errno) { return c.join() }},
		{"label_replace", 5, 5, types{vector, text, text, text, text}, func(c call) (api.Value, api.Errno) { return c.replace() }},
		{"pi", 0, 0, types{}, func(call) (api.Value, api.Errno) { return numberOf(pi()) }},
		{"scalar", 1, 1, types{vector}, func(c call) (api.Value, api.Errno) { return c.only() }},
		{"sort", 1, 1, types{vector}, func(c call) (api.Value, api.Errno) { return vectorOf(byValue(c.vector, false), api.OK) }},
		{"sort_desc", 1, 1, types{vector}, func(c call) (api.Value, api.Errno) { return vectorOf(byValue(c.vector, true), api.OK) }},
		{"vector", 1, 1, types{scalar}, func(c call) (api.Value, api.Errno) { return vectorOf([]api.Elem{{V: c.args[0].V}}, api.OK) }},
	}
}

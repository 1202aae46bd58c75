package fns

import (
	"math"

	"weir/api"
	"weir/calc"
)

// A call is what a function is asked with: arguments that it takes, and of the vector among them a copy that is the call's own, sound and in canonical order.
type call struct {
	args   []api.Value
	vector []api.Elem
	at     int64
}

// vectorOf: a vector as an answer; nothing beside an error.
func vectorOf(v []api.Elem, e api.Errno) (api.Value, api.Errno) {
	if e != api.OK {
		return api.Value{}, e
	}
	return api.Value{Type: api.ValVector, Vector: v}, api.OK
}

func numberOf(v float64) (api.Value, api.Errno) {
	return api.Value{Type: api.ValScalar, V: v}, api.OK
}

// each: the elements without the name, their values turned.
func (c call) each(turn func(v float64) float64) (api.Value, api.Errno) {
	return vectorOf(turned(c.vector, turn))
}

func (c call) round() (api.Value, api.Errno) {
	to := 1.0
	if len(c.args) > 1 {
		to = c.args[1].V
	}
	return c.each(func(v float64) float64 { return calc.Round(v, to) })
}

func (c call) clamp() (api.Value, api.Errno) {
	lo, hi := c.args[1].V, c.args[2].V
	if lo > hi {
		return vectorOf(nil, api.OK)
	}
	return c.within(lo, hi)
}

func (c call) within(lo, hi float64) (api.Value, api.Errno) {
	return c.each(func(v float64) float64 { return clamped(v, lo, hi) })
}

// calendar: a field of the moment that each element's value is; of no vector, that of the call's time.
func (c call) calendar(field func(t api.Civil) int) (api.Value, api.Errno) {
	v := c.vector
	if len(c.args) == 0 {
		v = []api.Elem{{V: float64(c.at) / milli}}
	}
	return vectorOf(turned(v, func(seconds float64) float64 { return fieldAt(seconds, field) }))
}

func (c call) replace() (api.Value, api.Errno) {
	return vectorOf(replaced(c.vector, c.args[1].Text, c.args[2].Text, c.args[3].Text, c.args[4].Text))
}

func (c call) join() (api.Value, api.Errno) {
	var srcs []string
	for _, a := range c.args[3:] {
		srcs = append(srcs, a.Text)
	}
	return vectorOf(joined(c.vector, c.args[1].Text, c.args[2].Text, srcs))
}

// only: the value of the one element.
func (c call) only() (api.Value, api.Errno) {
	if len(c.vector) != 1 {
		return numberOf(math.NaN())
	}
	return numberOf(c.vector[0].V)
}

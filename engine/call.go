package engine

import (
	"weir/api"
	"weir/fns"
	"weir/over"
)

// called: a function's answer at the time t.
func (r *run) called(c *api.Call, t int64) value {
	if c.Name == "timestamp" {
		return distinct(r.stamped(c.Args[0], t))
	}
	var args []value
	for _, x := range c.Args {
		args = append(args, r.answer(x, t))
	}
	switch {
	case c.Name == "time":
		return seconds(t)
	case c.Name == "absent":
		return absent(len(args[0].(vector)), c.Args[0])
	case c.Name == "absent_over_time":
		return absent(len(args[0].(matrix).series), c.Args[0])
	case over.Known(c.Name):
		return overTime(c.Name, args, t)
	}
	return turned(c.Name, args, t)
}

// stamped: the elements of a node, each with a time as its value: of a selector that of the sample, of all others t.
func (r *run) stamped(x api.Expr, t int64) []api.Elem {
	var v []api.Elem
	if s, ok := x.(*api.Selector); ok {
		r.pay(1) // for the selector: it is a node like others, though it isn't asked for its values
		for _, p := range r.seen(s, t) {
			v = append(v, api.Elem{Labels: nameless(p.set), V: float64(seconds(p.sample.T))})
		}
		return v
	}
	for _, p := range r.answer(x, t).(vector) {
		v = append(v, api.Elem{Labels: nameless(p.Labels), V: float64(seconds(t))})
	}
	return v
}

// absent: what says that a node's answer holds nothing; nothing, if it holds something.
func absent(holds int, x api.Expr) vector {
	if holds > 0 {
		return nil
	}
	return fns.Absent(asked(x))
}

// asked: the matchers of a selector or of a range's selector.
func asked(x api.Expr) []api.Matcher {
	switch x := x.(type) {
	case *api.Selector:
		return x.Matchers
	case *api.Range:
		return x.Of.Matchers
	}
	return nil
}

// overTime: the answer of a function of windows: args are a matrix and, ahead of it or behind it, scalars.
func overTime(name string, args []value, t int64) vector {
	var m matrix
	var numbers []float64
	for _, a := range args {
		switch a := a.(type) {
		case matrix:
			m = a
		case scalar:
			numbers = append(numbers, float64(a))
		}
	}
	var v []api.Elem
	for _, s := range m.series {
		x, ok := over.Call(name, api.Window{Points: s.Points, From: m.from, To: m.to, Now: t}, numbers)
		if ok {
			v = append(v, api.Elem{Labels: named(name, s.Labels), V: x})
		}
	}
	return distinct(v)
}

// named: the labels that a function of windows leaves an element.
func named(function string, ls []api.Label) []api.Label {
	if function == "last_over_time" || function == "first_over_time" {
		return ls
	}
	return nameless(ls)
}

// turned: the answer of a function of instant values.
func turned(name string, args []value, t int64) value {
	var list []api.Value
	for _, a := range args {
		list = append(list, argument(a))
	}
	answer, e := fns.Call(name, list, t)
	must(e)
	return valueOf(answer)
}

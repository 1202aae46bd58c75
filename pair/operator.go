package pair

import (
	"weir/api"
	"weir/calc"
)

// The kinds of operators.
const (
	noKind = iota
	arithmetic
	comparison
	ofSets
)

func kindOf(op string) int {
	switch op {
	case "+", "-", "*", "/", "%", "^":
		return arithmetic
	case "==", "!=", "<", "<=", ">", ">=":
		return comparison
	case "and", "or", "unless":
		return ofSets
	}
	return noKind
}

// An operation is an operator as it is asked for: with yes a comparison tells whether it holds, without it lets through what it holds of.
type operation struct {
	op   string
	kind int
	yes  bool
}

func (o operation) takesNumbers() bool { return o.kind == arithmetic || o.kind == comparison }

func (o operation) isFilter() bool { return o.kind == comparison && !o.yes }

// between: what comes out of a op b, where passed is what a filter lets through; false: nothing does.
func (o operation) between(a, b, passed float64) (float64, bool) {
	if o.kind == arithmetic {
		return value(o.op, a, b), true
	}
	holding := holds(o.op, a, b)
	switch {
	case o.isFilter():
		return passed, holding
	case holding:
		return 1, true
	}
	return 0, true
}

// value: that of a op b, for an arithmetic operator.
func value(op string, a, b float64) float64 {
	switch op {
	case "+":
		return a + b
	case "-":
		return a - b
	case "*":
		return float64(a * b)
	case "/":
		return a / b
	case "%":
		return calc.Mod(a, b)
	}
	return calc.Pow(a, b)
}

// holds: does a op b hold, for a comparison?
func holds(op string, a, b float64) bool {
	switch op {
	case "==":
		return a == b
	case "!=":
		return a != b
	case "<":
		return a < b
	case "<=":
		return a <= b
	case ">":
		return a > b
	}
	return a >= b
}

// named: the labels as an element that comes out has them: a filter answers what there was, all else is a new thing, which has no name. The labels are the caller's own, and are used up.
func (o operation) named(ls []api.Label) []api.Label {
	if o.isFilter() {
		return ls
	}
	return nameless(ls)
}

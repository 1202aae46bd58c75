package check

import "weir/api"

// operand: ErrType of what no sign and no operator takes.
func operand(kind int) api.Errno {
	if kind != api.ValScalar && kind != api.ValVector {
		return api.ErrType
	}
	return api.OK
}

// binary: the fault of an operator between things of the types x and y.
func binary(n *api.Binary, x, y int) api.Errno {
	if operand(x) != api.OK || operand(y) != api.OK {
		return api.ErrType
	}
	both := x == api.ValScalar && y == api.ValScalar
	if n.Bool && !compares(n.Op) || !n.Bool && compares(n.Op) && both {
		return api.ErrBool
	}
	one := x == api.ValScalar || y == api.ValScalar
	if one && ofSets(n.Op) {
		return api.ErrType
	}
	if one && !isPlain(n.Matching) || ofSets(n.Op) && n.Card != api.CardOne || n.On && meet(n.Labels, n.Include) {
		return api.ErrGrouping
	}
	return api.OK
}

func compares(op string) bool {
	switch op {
	case "==", "!=", "<", "<=", ">", ">=":
		return true
	}
	return false
}

func ofSets(op string) bool {
	return op == "and" || op == "or" || op == "unless"
}

// isPlain: is it the zero Matching?
func isPlain(m api.Matching) bool {
	return !m.Given && !m.On && len(m.Labels) == 0 && m.Card == api.CardOne && len(m.Include) == 0
}

// meet: does a name stand in both lists? (By a map: each list may have as many names as a text has room for.)
func meet(a, b []string) bool {
	if len(b) == 0 {
		return false
	}
	places := map[string]int{}
	for i, name := range a {
		places[name] = i
	}
	for _, name := range b {
		if _, there := places[name]; there {
			return true
		}
	}
	return false
}

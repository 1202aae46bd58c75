package show

import "weir/api"

// The levels of nodes, from loose to tight.
const (
	levelOr = iota + 1
	levelAnd
	levelCompare
	levelSum
	levelProduct
	levelUnary
	levelPower
	levelWhole // what can't be torn apart by its neighbours
)

// level: how tightly a node's parts hold together.
func level(x api.Expr) int {
	switch x.Kind() {
	case api.NodeUnary:
		return levelUnary
	case api.NodeBinary:
		return operatorLevel(x.(*api.Binary).Op)
	}
	return levelWhole
}

func operatorLevel(op string) int {
	switch op {
	case "or":
		return levelOr
	case "and", "unless":
		return levelAnd
	case "+", "-":
		return levelSum
	case "*", "/", "%":
		return levelProduct
	case "^":
		return levelPower
	}
	return levelCompare
}

// sides: the least levels at which the things to the left and to the right of an operator stand without brackets. Of a row of operators the left one comes first, but of ^ the right one; and behind ^ a sign can't be meant for anything else.
func sides(op string) (left, right int) {
	if op == "^" {
		return levelWhole, levelUnary
	}
	own := operatorLevel(op)
	return own, own + 1
}

package parse

import "weir/api"

// How tightly operators bind, from loose to tight. A sign stands between the products and the powers: -a ^ b is -(a ^ b), and -a * b is (-a) * b.
const (
	rankNone = iota
	rankOr
	rankAnd
	rankCompare
	rankSum
	rankProduct
	rankSign
	rankPower
)

// A wait is a sign or an operator whose right side is still to be read.
type wait struct {
	node api.Expr
	rank int
	left int // how deep its left side is; 0 of a sign
}

// or: the part by the grammar's rule of that name and by all rules from there down to postfix. Signs and powers nest as deep as a text is long, so they don't call themselves: what waits for its right side stands in a list, each as a part of the right side of the one ahead of it.
func (r *reader) or() part {
	var waits []wait
	for {
		waits = r.signs(waits)
		x := r.postfix()
		op, rank := r.operator()
		waits, x = r.settle(waits, x, rank)
		if rank == rankNone {
			return x
		}
		r.take()
		b := &api.Binary{Op: op, X: r.kid(x)}
		r.mods(b)
		waits = put(waits, wait{node: b, rank: rank, left: x.depth})
	}
}

// signs: the waits, and those of the signs that stand here.
func (r *reader) signs(waits []wait) []wait {
	for r.op("+") || r.op("-") {
		waits = put(waits, wait{node: &api.Unary{Op: r.take()}, rank: rankSign})
	}
	return waits
}

// put: the waits and one more. Each one's node will stand above that of the next, so where there are as many as a tree may be deep it is too deep without this one.
func put(waits []wait, w wait) []wait {
	if len(waits) == api.MaxDepth {
		return waits
	}
	return append(waits, w)
}

// settle: the waits that go on waiting and the part that x has become, where an operator of that rank stands behind it.
func (r *reader) settle(waits []wait, x part, rank int) ([]wait, part) {
	n := len(waits)
	for n > 0 && ahead(waits[n-1].rank, rank) {
		n--
		x = r.join(waits[n], x)
	}
	return waits[:n], x
}

// ahead: of two operators with one thing between them, does the left one take it? Equals are taken from the left, but for the powers.
func ahead(left, right int) bool {
	return left > right || left == right && left != rankPower
}

// join: the part of a sign or an operator that has its right side now.
func (r *reader) join(w wait, x part) part {
	switch n := w.node.(type) {
	case *api.Unary:
		n.X = r.kid(x)
	case *api.Binary:
		n.Y = r.kid(x)
	}
	return r.made(w.node, max(w.left, x.depth))
}

// operator: the operator between two things that the next token is, and its rank; rankNone, where it is none.
func (r *reader) operator() (op string, rank int) {
	op = r.word()
	if r.next().Kind == api.TokOp {
		op = r.next().Text
	}
	switch op {
	case "or":
		return op, rankOr
	case "and", "unless":
		return op, rankAnd
	case "==", "!=", "<", ">", "<=", ">=":
		return op, rankCompare
	case "+", "-":
		return op, rankSum
	case "*", "/", "%":
		return op, rankProduct
	case "^":
		return op, rankPower
	}
	return op, rankNone
}

// mods reads what may stand between an operator and its right side.
func (r *reader) mods(b *api.Binary) {
	if r.word() == "bool" {
		r.take()
		b.Bool = true
	}
	word := r.word()
	if word != "on" && word != "ignoring" {
		return
	}
	r.take()
	b.Given, b.On, b.Matching.Labels = true, word == "on", r.labels()
	switch r.word() {
	case "group_left":
		b.Card = api.CardLeft
	case "group_right":
		b.Card = api.CardRight
	default:
		return
	}
	r.take()
	if r.op("(") {
		b.Include = r.labels()
	}
}

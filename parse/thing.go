package parse

import (
	"weir/api"
	"weir/utf"
)

// A part is what has been read of a query.
type part struct {
	node   api.Expr
	depth  int
	closed bool // brackets stand around it, so that no modifier behind them can reach it
}

// made: the part of a node whose kids are at most so deep.
func (r *reader) made(node api.Expr, below int) part {
	if below >= api.MaxDepth {
		r.deep = true
	}
	return part{node: node, depth: below + 1}
}

// kid: the node of a part, for the node above it. Where no tree will be answered it is let go: there may be millions.
func (r *reader) kid(x part) api.Expr {
	if r.deep {
		return nil
	}
	return x.node
}

// postfix: a thing and what stands behind it.
func (r *reader) postfix() part {
	x := r.primary()
	for {
		switch {
		case r.op("["):
			x = r.window(x)
		case r.word() == "offset":
			r.offset(x)
		case r.op("@"):
			r.at(x)
		default:
			return x
		}
	}
}

// window: the range or the subquery of x.
func (r *reader) window(x part) part {
	r.opens("[")
	dur := r.must(api.TokSpan)
	if r.op("]") {
		s := plain(x)
		if s == nil {
			r.refuse(api.ErrModifier)
		}
		r.closes("]")
		return r.made(&api.Range{Of: s, Dur: dur}, x.depth)
	}
	if !r.pass(":") {
		r.wrong()
	}
	q := &api.Subquery{X: r.kid(x), Dur: dur}
	if r.next().Kind == api.TokSpan {
		q.Step = r.take()
	}
	r.closes("]")
	return r.made(q, x.depth)
}

// plain: the selector that x is, if a range can be made of it, else nil.
func plain(x part) *api.Selector {
	s, ok := x.node.(*api.Selector)
	if !ok || x.closed || s.When != (api.When{}) {
		return nil
	}
	return s
}

// when: what x has for the modifiers to set; nil, where they can't stand behind it.
func when(x part) *api.When {
	if x.closed {
		return nil
	}
	switch n := x.node.(type) {
	case *api.Selector:
		return &n.When
	case *api.Range:
		return &n.Of.When
	case *api.Subquery:
		return &n.When
	}
	return nil
}

// offset reads that modifier of x.
func (r *reader) offset(x part) {
	w := when(x)
	if w == nil || w.Offset != "" {
		r.refuse(api.ErrModifier)
	}
	r.take()
	sign := ""
	if r.op("-") {
		sign = r.take()
	}
	w.Offset = sign + r.must(api.TokSpan)
}

// at reads the modifier @ of x.
func (r *reader) at(x part) {
	w := when(x)
	if w == nil || w.At != "" {
		r.refuse(api.ErrModifier)
	}
	r.take()
	w.At = r.time()
}

// time: what stands behind an @.
func (r *reader) time() string {
	switch r.next().Text {
	case "start", "end":
		edge := r.take()
		r.opens("(")
		r.closes(")")
		return edge
	}
	return r.must(api.TokNumber)
}

// primary: a thing without what stands behind it.
func (r *reader) primary() part {
	switch r.next().Kind {
	case api.TokNumber, api.TokSpan:
		return r.made(&api.Number{Lexeme: r.take()}, 0)
	case api.TokString:
		return r.made(&api.Text{Value: r.literal()}, 0)
	}
	word := r.word()
	switch {
	case r.op("("):
		return r.inner()
	case aggregation(word):
		return r.aggregate(word)
	case r.called():
		return r.call()
	}
	return r.selector()
}

// called: does the call of a function begin here?
func (r *reader) called() bool {
	return r.next().Kind == api.TokName && r.word() == "" && len(r.toks) > 1 && isOp(r.toks[1], "(")
}

// literal: the value of the string that stands here.
func (r *reader) literal() string {
	value, _ := utf.Unquote(r.must(api.TokString)) // lex.Scan takes no string that can't be read
	return value
}

// inner: what stands between brackets.
func (r *reader) inner() part {
	r.opens("(")
	x := r.or()
	r.closes(")")
	x.closed = true
	return x
}

// call: the call of a function.
func (r *reader) call() part {
	c := &api.Call{Name: r.take()}
	below := 0
	r.opens("(")
	for more := !r.op(")"); more; more = r.pass(",") {
		x := r.or()
		c.Args = append(c.Args, r.kid(x))
		below = max(below, x.depth)
	}
	r.closes(")")
	return r.made(c, below)
}

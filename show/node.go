package show

import (
	"strings"

	"weir/api"
)

// A writer holds the text so far.
type writer struct {
	text strings.Builder
}

func (w *writer) put(pieces ...string) {
	for _, s := range pieces {
		w.text.WriteString(s)
	}
}

// node writes a node's text, by what the node says that it is.
func (w *writer) node(x api.Expr) {
	switch x.Kind() {
	case api.NodeNumber:
		w.put(x.(*api.Number).Lexeme)
	case api.NodeString:
		w.literal(x.(*api.Text).Value)
	case api.NodeSelector:
		w.selector(x.(*api.Selector), "")
	case api.NodeRange:
		n := x.(*api.Range)
		w.selector(n.Of, n.Dur)
	case api.NodeSubquery:
		w.subquery(x.(*api.Subquery))
	case api.NodeUnary:
		n := x.(*api.Unary)
		w.put(n.Op)
		w.kid(n.X, levelUnary)
	case api.NodeBinary:
		w.binary(x.(*api.Binary))
	case api.NodeCall:
		n := x.(*api.Call)
		w.put(n.Name)
		w.arguments(n.Args)
	case api.NodeAggregate:
		w.aggregate(x.(*api.Aggregate))
	}
}

// kid writes a node's text, in brackets if its level is below the least that needs none.
func (w *writer) kid(x api.Expr, least int) {
	if level(x) >= least {
		w.node(x)
		return
	}
	w.put("(")
	w.node(x)
	w.put(")")
}

func (w *writer) subquery(n *api.Subquery) {
	w.kid(n.X, levelWhole)
	w.put("[", n.Dur, ":", n.Step, "]")
	w.when(n.When)
}

func (w *writer) binary(n *api.Binary) {
	left, right := sides(n.Op)
	w.kid(n.X, left)
	w.put(" ", n.Op)
	if n.Bool {
		w.put(" bool")
	}
	w.matching(n.Matching)
	w.put(" ")
	w.kid(n.Y, right)
}

func (w *writer) matching(m api.Matching) {
	if !m.Given {
		return
	}
	if m.On {
		w.put(" on")
	} else {
		w.put(" ignoring")
	}
	w.names(m.Labels)
	switch m.Card {
	case api.CardLeft:
		w.put(" group_left")
		w.names(m.Include)
	case api.CardRight:
		w.put(" group_right")
		w.names(m.Include)
	}
}

func (w *writer) aggregate(n *api.Aggregate) {
	w.put(n.Op)
	if n.Without {
		w.put(" without")
		w.names(n.Labels)
		w.put(" ")
	} else if len(n.Labels) > 0 {
		w.put(" by")
		w.names(n.Labels)
		w.put(" ")
	}
	if n.Param != nil {
		w.arguments([]api.Expr{n.Param, n.X})
	} else {
		w.arguments([]api.Expr{n.X})
	}
}

func (w *writer) arguments(list []api.Expr) {
	w.put("(")
	for i, x := range list {
		if i > 0 {
			w.put(", ")
		}
		w.node(x)
	}
	w.put(")")
}

// names writes labels' names as a list.
func (w *writer) names(list []string) {
	w.put("(", strings.Join(list, ","), ")")
}

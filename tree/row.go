package tree

import (
	"slices"
	"strings"

	"weir/api"
)

// plainRow: a node's row, its lists the node's own.
func plainRow(node api.Expr) api.Row {
	r := api.Row{Kind: node.Kind(), Kids: len(kids(node))}
	switch n := node.(type) {
	case *api.Number:
		r.Text = n.Lexeme
	case *api.Text:
		r.Text = n.Value
	case *api.Selector:
		r.Text, r.Matchers, r.When = n.Name, n.Matchers, n.When
	case *api.Range:
		r.Dur = n.Dur
	case *api.Subquery:
		r.Dur, r.Step, r.When = n.Dur, n.Step, n.When
	case *api.Unary:
		r.Op = n.Op
	case *api.Binary:
		r.Op, r.Bool, r.Matching = n.Op, n.Bool, n.Matching
	case *api.Call:
		r.Op = n.Name
	case *api.Aggregate:
		r.Op, r.Without, r.Labels = n.Op, n.Without, n.Labels
	}
	return r
}

// fromRow: the node of a row, without its kids, its lists the row's own; nil, where there is no such kind.
func fromRow(r api.Row) api.Expr {
	switch r.Kind {
	case api.NodeNumber:
		return &api.Number{Lexeme: r.Text}
	case api.NodeString:
		return &api.Text{Value: r.Text}
	case api.NodeSelector:
		return &api.Selector{Name: r.Text, Matchers: r.Matchers, When: r.When}
	case api.NodeRange:
		return &api.Range{Dur: r.Dur}
	case api.NodeSubquery:
		return &api.Subquery{Dur: r.Dur, Step: r.Step, When: r.When}
	case api.NodeUnary:
		return &api.Unary{Op: r.Op}
	case api.NodeBinary:
		return &api.Binary{Op: r.Op, Bool: r.Bool, Matching: r.Matching}
	case api.NodeCall:
		return &api.Call{Name: r.Op}
	case api.NodeAggregate:
		return &api.Aggregate{Op: r.Op, Without: r.Without, Labels: r.Labels}
	}
	return nil
}

// plainRows: the rows of the root and of all below it, their lists the nodes' own.
func plainRows(root api.Expr) []api.Row {
	var rows []api.Row
	for _, node := range nodes(root) {
		rows = append(rows, plainRow(node))
	}
	return rows
}

// sameRow: are two rows the same? An empty list is the same as nil.
func sameRow(a, b api.Row) bool {
	return a.Kind == b.Kind && a.Kids == b.Kids && a.Op == b.Op && a.Text == b.Text &&
		a.Dur == b.Dur && a.Step == b.Step && a.When == b.When &&
		a.Bool == b.Bool && a.Without == b.Without &&
		slices.Equal(a.Matchers, b.Matchers) && slices.Equal(a.Labels, b.Labels) &&
		sameMatching(a.Matching, b.Matching)
}

func sameMatching(a, b api.Matching) bool {
	return a.Given == b.Given && a.On == b.On && a.Card == b.Card &&
		slices.Equal(a.Labels, b.Labels) && slices.Equal(a.Include, b.Include)
}

// copyRow: a row that shares no memory with r.
func copyRow(r api.Row) api.Row {
	r.Op, r.Text = strings.Clone(r.Op), strings.Clone(r.Text)
	r.Dur, r.Step = strings.Clone(r.Dur), strings.Clone(r.Step)
	r.When = copyWhen(r.When)
	r.Matchers = copyMatchers(r.Matchers)
	r.Labels = copyTexts(r.Labels)
	r.Matching.Labels, r.Matching.Include = copyTexts(r.Matching.Labels), copyTexts(r.Matching.Include)
	return r
}

func copySelector(s api.Selector) api.Selector {
	return api.Selector{Name: strings.Clone(s.Name), Matchers: copyMatchers(s.Matchers), When: copyWhen(s.When)}
}

func copyWhen(w api.When) api.When {
	return api.When{Offset: strings.Clone(w.Offset), At: strings.Clone(w.At)}
}

func copyMatchers(list []api.Matcher) []api.Matcher {
	var made []api.Matcher
	for _, m := range list {
		made = append(made, api.Matcher{Name: strings.Clone(m.Name), Op: m.Op, Value: strings.Clone(m.Value)})
	}
	return made
}

func copyTexts(list []string) []string {
	var made []string
	for _, s := range list {
		made = append(made, strings.Clone(s))
	}
	return made
}

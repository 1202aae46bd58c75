package tree

import (
	"iter"

	"weir/api"
)

// kids: the nodes right below a node, from the left.
func kids(node api.Expr) []api.Expr {
	switch n := node.(type) {
	case *api.Range:
		return []api.Expr{n.Of}
	case *api.Subquery:
		return []api.Expr{n.X}
	case *api.Unary:
		return []api.Expr{n.X}
	case *api.Binary:
		return []api.Expr{n.X, n.Y}
	case *api.Call:
		return n.Args
	case *api.Aggregate:
		if n.Param != nil {
			return []api.Expr{n.Param, n.X}
		}
		return []api.Expr{n.X}
	}
	return nil
}

// adopt: gives a node its kids, as many as its kind has.
func adopt(node api.Expr, kids []api.Expr) {
	switch n := node.(type) {
	case *api.Range:
		n.Of = kids[0].(*api.Selector)
	case *api.Subquery:
		n.X = kids[0]
	case *api.Unary:
		n.X = kids[0]
	case *api.Binary:
		n.X, n.Y = kids[0], kids[1]
	case *api.Call:
		n.Args = kids
	case *api.Aggregate:
		if len(kids) == 2 {
			n.Param, kids = kids[0], kids[1:]
		}
		n.X = kids[0]
	}
}

// nodes: depth and node, for the root and all below it, in the order of the rows.
func nodes(root api.Expr) iter.Seq2[int, api.Expr] {
	return func(yield func(int, api.Expr) bool) {
		if root != nil {
			descend(root, 1, yield)
		}
	}
}

// descend: hands on a node at this depth and all below it; false, as soon as no more are wanted.
func descend(node api.Expr, depth int, yield func(int, api.Expr) bool) bool {
	if !yield(depth, node) {
		return false
	}
	for _, kid := range kids(node) {
		if !descend(kid, depth+1, yield) {
			return false
		}
	}
	return true
}

// selectors: the selectors among the root and all below it, in the order of the rows.
func selectors(root api.Expr) []*api.Selector {
	var list []*api.Selector
	for _, node := range nodes(root) {
		if s, ok := node.(*api.Selector); ok {
			list = append(list, s)
		}
	}
	return list
}

// copyNode: a node and all below it anew; nil of nil.
func copyNode(node api.Expr) api.Expr {
	if node == nil {
		return nil
	}
	var below []api.Expr
	for _, kid := range kids(node) {
		below = append(below, copyNode(kid))
	}
	made := fromRow(copyRow(plainRow(node)))
	adopt(made, below)
	return made
}

// grow: the tree at the head of rows that have been found sound, and the rows behind it.
func grow(rows []api.Row) (api.Expr, []api.Row) {
	head, rest := rows[0], rows[1:]
	var below []api.Expr
	for range head.Kids {
		var kid api.Expr
		kid, rest = grow(rest)
		below = append(below, kid)
	}
	made := fromRow(copyRow(head))
	adopt(made, below)
	return made, rest
}

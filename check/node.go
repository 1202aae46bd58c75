package check

import (
	"weir/api"
	"weir/span"
)

// A checker looks at the nodes of one tree.
type checker struct {
	sigs     map[string]api.Sig
	patterns map[string]pattern // those met so far: a policy puts the same ones into every selector, and to compile one may be dear
}

// node: the type of a node, or the first fault in it and all below it.
func (c *checker) node(node api.Expr) (int, api.Errno) {
	var types []int
	for _, kid := range kids(node) {
		kind, e := c.node(kid)
		if e != api.OK {
			return 0, e
		}
		types = append(types, kind)
	}
	if e := c.fault(node, types); e != api.OK {
		return 0, e
	}
	return c.result(node, types), api.OK
}

// kids: the nodes right below a node, from the left.
func kids(node api.Expr) []api.Expr {
	switch n := node.(type) {
	case *api.Range:
		return []api.Expr{n.Of}
	case *api.Subquery:
		return []api.Expr{n.X}
	case *api.Unary:
		return []api.Expr{n.X}
	case *api.Binary:
		return []api.Expr{n.X, n.Y}
	case *api.Call:
		return n.Args
	case *api.Aggregate:
		if n.Param != nil {
			return []api.Expr{n.Param, n.X}
		}
		return []api.Expr{n.X}
	}
	return nil
}

// fault: what is wrong with a node itself, its kids being sound and of these types.
func (c *checker) fault(node api.Expr, types []int) api.Errno {
	switch n := node.(type) {
	case *api.Selector:
		return c.selector(n)
	case *api.Range:
		return width(n.Dur)
	case *api.Subquery:
		return subquery(n, types[0])
	case *api.Unary:
		return operand(types[0])
	case *api.Binary:
		return binary(n, types[0], types[1])
	case *api.Call:
		return c.call(n, types)
	case *api.Aggregate:
		return aggregate(n, types)
	}
	return api.OK
}

// result: the type of a node that has no fault, its kids being of these types.
func (c *checker) result(node api.Expr, types []int) int {
	switch n := node.(type) {
	case *api.Number:
		return api.ValScalar
	case *api.Text:
		return api.ValString
	case *api.Range, *api.Subquery:
		return api.ValMatrix
	case *api.Unary:
		return types[0]
	case *api.Binary:
		if types[0] == api.ValScalar {
			return types[1]
		}
	case *api.Call:
		return c.sigs[n.Name].Result
	}
	return api.ValVector
}

// width: ErrWidth of a duration of 0 ms.
func width(dur string) api.Errno {
	if ms, _ := span.Parse(dur); ms == 0 {
		return api.ErrWidth
	}
	return api.OK
}

// subquery: the fault of a subquery of a thing of type x.
func subquery(n *api.Subquery, x int) api.Errno {
	if x != api.ValVector {
		return api.ErrType
	}
	if e := width(n.Dur); e != api.OK {
		return e
	}
	if n.Step != "" && width(n.Step) != api.OK {
		return api.ErrWidth
	}
	return when(n.When)
}

package check

import (
	"slices"

	"weir/api"
	"weir/lex"
)

// call: the fault of a call with arguments of these types.
func (c *checker) call(n *api.Call, types []int) api.Errno {
	sig, known := c.sigs[n.Name]
	if !known {
		return api.ErrFunction
	}
	if len(types) < sig.Least || len(types) > len(sig.Args) && !sig.More {
		return api.ErrArity
	}
	for i, kind := range types {
		if kind != sig.Args[min(i, len(sig.Args)-1)] {
			return api.ErrType
		}
	}
	switch n.Name {
	case "label_replace":
		return c.labelReplace(n.Args)
	case "label_join":
		return labelJoin(n.Args)
	}
	return api.OK
}

// labelReplace: the fault in the texts of arguments whose types are right.
func (c *checker) labelReplace(args []api.Expr) api.Errno {
	if noLabel(args[1]) || noLabel(args[3]) {
		return api.ErrGrouping
	}
	if !c.pattern(textOf(args[4])).taken {
		return api.ErrRegex
	}
	return api.OK
}

// labelJoin: likewise. The third argument is what is put between the values, and may be any text.
func labelJoin(args []api.Expr) api.Errno {
	if noLabel(args[1]) || slices.ContainsFunc(args[3:], noLabel) {
		return api.ErrGrouping
	}
	return api.OK
}

// aggregate: the fault of an aggregation whose kids, the parameter ahead, are of these types.
func aggregate(n *api.Aggregate, types []int) api.Errno {
	if types[len(types)-1] != api.ValVector {
		return api.ErrType
	}
	asked, _ := Aggr(n.Op)
	if (n.Param != nil) != (asked != 0) {
		return api.ErrArity
	}
	if asked != 0 && types[0] != asked {
		return api.ErrType
	}
	if n.Op == "count_values" && noLabel(n.Param) {
		return api.ErrGrouping
	}
	return api.OK
}

// noLabel: is the text of a string node no label's name?
func noLabel(node api.Expr) bool {
	return !lex.IsLabel(textOf(node))
}

// textOf: the text of a string node.
func textOf(node api.Expr) string {
	if s, ok := node.(*api.Text); ok {
		return s.Value
	}
	return ""
}

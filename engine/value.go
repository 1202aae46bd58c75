package engine

import (
	"slices"

	"weir/api"
	"weir/labels"
)

// A value is a node's answer: a scalar, a text, a vector or a matrix.
type value interface {
	kind() int
}

type scalar float64

type text string

// A vector's elements stand in canonical order, but where sort or sort_desc made it: it is put in order where the order can be seen.
type vector []api.Elem

// A matrix is a range vector: all its series have the same window.
type matrix struct {
	series   []api.Series
	from, to int64
}

func (scalar) kind() int { return api.ValScalar }

func (text) kind() int { return api.ValString }

func (vector) kind() int { return api.ValVector }

func (matrix) kind() int { return api.ValMatrix }

// argument: a value as an argument of a function of instant values, which is never a matrix.
func argument(v value) api.Value {
	a := api.Value{Type: v.kind()}
	switch v := v.(type) {
	case scalar:
		a.V = float64(v)
	case text:
		a.Text = string(v)
	case vector:
		a.Vector = v
	}
	return a
}

// valueOf: the answer of a function of instant values, which is never a text.
func valueOf(a api.Value) value {
	if a.Type == api.ValScalar {
		return scalar(a.V)
	}
	return vector(a.Vector)
}

// made: the vector, if it could be made.
func made(v []api.Elem, e api.Errno) vector {
	must(e)
	return v
}

// distinct: the elements in canonical order, if they make a vector.
func distinct(v []api.Elem) vector {
	slices.SortFunc(v, bySet)
	for i := 1; i < len(v); i++ {
		if bySet(v[i-1], v[i]) == 0 {
			must(api.ErrDup)
		}
	}
	return v
}

func bySet(a, b api.Elem) int { return labels.Compare(a.Labels, b.Labels) }

// nameless: the labels without the name.
func nameless(ls []api.Label) []api.Label {
	i := slices.IndexFunc(ls, func(l api.Label) bool { return l.Name == api.MetricName })
	if i < 0 {
		return ls
	}
	return slices.Concat(ls[:i], ls[i+1:])
}

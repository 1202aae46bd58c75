package labels

import (
	"cmp"
	"slices"
	"strings"

	"weir/api"
)

// Compare: -1, 0 or 1, as a stands ahead of b in the canonical order, is the same list, or stands behind it.
func Compare(a, b []api.Label) int { return slices.CompareFunc(a, b, compareLabels) }

func compareLabels(a, b api.Label) int {
	return cmp.Or(strings.Compare(a.Name, b.Name), strings.Compare(a.Value, b.Value))
}

// Vector: the elements in canonical order.
func Vector(v []api.Elem) ([]api.Elem, api.Errno) {
	if slices.ContainsFunc(v, func(x api.Elem) bool { return !Valid(x.Labels) }) {
		return nil, api.ErrVector
	}
	sorted := slices.Clone(v)
	slices.SortFunc(sorted, compareElems)
	for i := range sorted {
		if i > 0 && compareElems(sorted[i-1], sorted[i]) == 0 {
			return nil, api.ErrVector
		}
	}
	for i, x := range sorted {
		sorted[i].Labels = copiedList(x.Labels)
	}
	return sorted, api.OK
}

func compareElems(a, b api.Elem) int { return Compare(a.Labels, b.Labels) }

func copiedList(ls []api.Label) []api.Label {
	made := make([]api.Label, 0, len(ls))
	for _, l := range ls {
		made = append(made, copied(l))
	}
	return made
}

package gather

import (
	"cmp"
	"slices"

	"weir/api"
	"weir/labels"
	"weir/num"
)

// A labeller answers an element's group labels, as a new list.
type labeller func(el api.Elem) []api.Label

// groupLabels: what labels.Keep leaves of an element's labels. Keep is asked for the element's own names that stay, and not for all of g.Labels, which would be gone through for each element.
func groupLabels(g api.Gathering) labeller {
	given := make(map[string]struct{}, len(g.Labels))
	for _, name := range g.Labels {
		given[name] = struct{}{}
	}
	return func(el api.Elem) []api.Label {
		var names []string
		for _, l := range el.Labels {
			_, named := given[l.Name]
			if named != g.Without && (named || l.Name != api.MetricName) {
				names = append(names, l.Name)
			}
		}
		return labels.Keep(el.Labels, names, false)
	}
}

// withValue: the group labels, and the value beside them as a label of this name.
func withValue(group labeller, name string) labeller {
	return func(el api.Elem) []api.Label { return labels.With(group(el), name, num.Show(el.V)) }
}

// A member is an element's value and place, with the labels of its group.
type member struct {
	group []api.Label
	place int
	v     float64
}

// grouped: a vector's elements group by group, the groups in the canonical order of their labels; within a group they stand as they stood.
func grouped(v []api.Elem, group labeller) [][]member {
	all := make([]member, 0, len(v))
	for i, el := range v {
		all = append(all, member{group(el), i, el.V})
	}
	slices.SortFunc(all, func(a, b member) int {
		return cmp.Or(labels.Compare(a.group, b.group), cmp.Compare(a.place, b.place))
	})
	var groups [][]member
	from := 0
	for i := range all {
		if next := i + 1; next == len(all) || labels.Compare(all[i].group, all[next].group) != 0 {
			groups = append(groups, all[from:next])
			from = next
		}
	}
	return groups
}

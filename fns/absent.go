package fns

import (
	"slices"
	"strings"

	"weir/api"
	"weir/labels"
)

// asked: the labels of absent's element: those for which matchers with = ask, all of them for one and the same value.
func asked(ms []api.Matcher) []api.Label {
	var all []api.Label
	for _, m := range ms {
		if m.Op == api.MatchEq && m.Name != api.MetricName {
			all = append(all, api.Label{Name: strings.Clone(m.Name), Value: strings.Clone(m.Value)})
		}
	}
	slices.SortFunc(all, func(a, b api.Label) int { return strings.Compare(a.Name, b.Name) })
	all = slices.Compact(all) // a name that still comes twice has two values
	var set []api.Label
	for i, l := range all {
		again := i > 0 && all[i-1].Name == l.Name || i+1 < len(all) && all[i+1].Name == l.Name
		if !again && labels.Valid(all[i:i+1]) {
			set = append(set, l)
		}
	}
	return set
}

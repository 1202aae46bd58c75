package store

import (
	"slices"
	"strings"

	"weir/api"
	"weir/labels"
)

// Restrict: the series of a dataset of which all matchers hold, as they are and in their order.
func Restrict(d api.Dataset, ms []api.Matcher) (api.Dataset, api.Errno) {
	f, _, e := labels.Compile(ms)
	if e != api.OK {
		return api.Dataset{}, e
	}
	var kept api.Dataset
	for _, s := range d.Series {
		if f.Holds(s.Labels) {
			kept.Series = append(kept.Series, copied(s))
		}
	}
	return kept, api.OK
}

// copied: a series in memory of its own.
func copied(s api.Series) api.Series {
	return api.Series{Labels: copiedSet(s.Labels), Points: slices.Clone(s.Points)}
}

// copiedSet: labels in memory of their own, texts and all.
func copiedSet(set []api.Label) []api.Label {
	var made []api.Label
	for _, l := range set {
		made = append(made, api.Label{Name: strings.Clone(l.Name), Value: strings.Clone(l.Value)})
	}
	return made
}

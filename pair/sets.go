package pair

import (
	"slices"
	"strings"

	"weir/api"
	"weir/labels"
)

// A nameSet holds the names of a list, so that a long list is gone through but once in a call.
type nameSet map[string]struct{}

func namesOf(list []string) nameSet {
	set := make(nameSet, len(list))
	for _, name := range list {
		set[name] = struct{}{}
	}
	return set
}

func (s nameSet) has(name string) bool {
	_, ok := s[name]
	return ok
}

// keysOf: a call that makes an element's key, the same for two elements just where the labels by which they find each other are the same. It asks labels.Key for the element's own names that count, and not for all of m.Labels, which would be gone through for each element.
func keysOf(m api.Matching) func(api.Elem) string {
	given := namesOf(m.Labels)
	return func(el api.Elem) string {
		var names []string
		for _, l := range el.Labels {
			if given.has(l.Name) == m.On && (m.On || l.Name != api.MetricName) {
				names = append(names, l.Name)
			}
		}
		return labels.Key(el.Labels, names, false)
	}
}

// nameless: the labels without the name. They are the caller's own, and are used up.
func nameless(ls []api.Label) []api.Label {
	return slices.DeleteFunc(ls, func(l api.Label) bool { return l.Name == api.MetricName })
}

// ordered: elements that come out in canonical order. They are label sets, and the caller's own.
func ordered(out []api.Elem) ([]api.Elem, api.Errno) {
	slices.SortFunc(out, func(a, b api.Elem) int { return labels.Compare(a.Labels, b.Labels) })
	for i := range out {
		if i > 0 && labels.Compare(out[i-1].Labels, out[i].Labels) == 0 {
			return nil, api.ErrDup
		}
	}
	return out, api.OK
}

// together: what a set operator takes of two vectors.
func together(op string, l, r []api.Elem, key func(api.Elem) string) []api.Elem {
	switch op {
	case "and":
		return those(l, r, key, true)
	case "unless":
		return those(l, r, key, false)
	}
	return append(l, those(r, l, key, false)...)
}

// those: the elements of v whose key is that of an element of other, or, with met false, of none.
func those(v, other []api.Elem, key func(api.Elem) string, met bool) []api.Elem {
	keys := make(nameSet, len(other))
	for _, el := range other {
		keys[key(el)] = struct{}{}
	}
	return slices.DeleteFunc(v, func(el api.Elem) bool { return keys.has(key(el)) != met })
}

// copied: a label whose texts lie in memory of their own.
func copied(l api.Label) api.Label {
	return api.Label{Name: strings.Clone(l.Name), Value: strings.Clone(l.Value)}
}

package pair

import (
	"slices"
	"strings"

	"weir/api"
)

// A meeting is an element of the many side with the element of the one side that has its key.
type meeting struct {
	many, one api.Elem
}

// meet: what comes out where the elements of two vectors meet. The vectors are the caller's own, and are used up.
func (o operation) meet(l, r []api.Elem, m api.Matching) ([]api.Elem, api.Errno) {
	many, one := l, r
	if m.Card == api.CardRight {
		many, one = r, l
	}
	met, e := meetings(many, one, m)
	if e != api.OK {
		return nil, e
	}
	relabel := relabelled(m)
	var out []api.Elem
	for _, both := range met {
		a, b := both.many.V, both.one.V
		if m.Card == api.CardRight {
			a, b = b, a
		}
		if v, comes := o.between(a, b, a); comes {
			out = append(out, api.Elem{Labels: relabel(o.named(both.many.Labels), both.one.Labels), V: v})
		}
	}
	return ordered(out)
}

// meetings: all that meet, or why they may not.
func meetings(many, one []api.Elem, m api.Matching) ([]meeting, api.Errno) {
	key := keysOf(m)
	places := make(map[string]int, len(one))
	for i, el := range one {
		k := key(el)
		if _, again := places[k]; again {
			return nil, api.ErrManyToMany
		}
		places[k] = i
	}
	taken := make([]bool, len(one))
	var met []meeting
	for _, el := range many {
		i, ok := places[key(el)]
		if !ok {
			continue
		}
		if taken[i] && m.Card == api.CardOne {
			return nil, api.ErrManyToOne
		}
		taken[i] = true
		met = append(met, meeting{el, one[i]})
	}
	return met, api.OK
}

// relabelled: a call that makes the labels of what comes out, from those of the many side, which are used up, and those of the one side, which aren't: it can meet many.
func relabelled(m api.Matching) func(many, one []api.Label) []api.Label {
	if m.Card == api.CardOne {
		given := namesOf(m.Labels)
		return func(many, _ []api.Label) []api.Label {
			return slices.DeleteFunc(many, func(l api.Label) bool { return given.has(l.Name) != m.On })
		}
	}
	brought := namesOf(m.Include)
	return func(many, one []api.Label) []api.Label {
		made := slices.DeleteFunc(many, func(l api.Label) bool { return brought.has(l.Name) })
		for _, l := range one {
			if brought.has(l.Name) {
				made = append(made, copied(l))
			}
		}
		slices.SortFunc(made, func(a, b api.Label) int { return strings.Compare(a.Name, b.Name) })
		return made
	}
}

package index

import (
	"slices"

	"weir/api"
	"weir/labels"
)

// An ask is one matcher, made ready. A blank one holds of sets without its label: of such it is asked whom it takes away, of the others whom they leave.
type ask struct {
	m      api.Matcher
	filter *labels.Filter
	blank  bool
}

// Find: the sets of which all matchers hold.
func (x *Index) Find(ms []api.Matcher) ([]int, api.Errno) {
	asks, e := asksOf(ms)
	if e != api.OK {
		return nil, e
	}
	return x.answers(asks), api.OK
}

// asksOf: the matchers made ready, those that aren't blank first: they tell where to begin, and the others then have few ids left to look at.
func asksOf(ms []api.Matcher) ([]ask, api.Errno) {
	var firm, blank []ask
	for _, m := range ms {
		f, _, e := labels.Compile([]api.Matcher{m})
		if e != api.OK {
			return nil, e
		}
		if f.Holds(nil) {
			blank = append(blank, ask{m: m, filter: f, blank: true})
		} else {
			firm = append(firm, ask{m: m, filter: f})
		}
	}
	return append(firm, blank...), api.OK
}

// answers: the ids that all asks leave. All ids are gone through only where no ask tells where to begin.
func (x *Index) answers(asks []ask) []int {
	var found []int
	if len(asks) == 0 || asks[0].blank {
		found = x.all()
	} else {
		found, asks = x.picked(asks[0]), asks[1:]
	}
	for _, a := range asks {
		if len(found) == 0 {
			break
		}
		found = those(found, x.picked(a), !a.blank)
	}
	return slices.Clone(found) // it may be the index's own list
}

// picked: of the sets that have an ask's label, those of which its matcher answers otherwise than of a set without it, rising; perhaps the index's own list.
func (x *Index) picked(a ask) []int {
	p := x.under(a.m.Name)
	plain := a.m.Op == api.MatchEq || a.m.Op == api.MatchNe
	if plain && a.m.Value != "" {
		return p[a.m.Value]
	}
	return p.where(func(value string) bool {
		return a.filter.Holds([]api.Label{{Name: a.m.Name, Value: value}}) != a.blank
	})
}

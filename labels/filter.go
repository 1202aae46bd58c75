package labels

import (
	"strings"

	"weir/api"
	"weir/lex"
	"weir/rx"
	"weir/utf"
)

// A Filter is a list of matchers, ready to ask: a closure each.
type Filter struct {
	matchers []func(ls []api.Label) bool
}

// Compile: the filter of these matchers; of the first one at fault its number and its error.
func Compile(ms []api.Matcher) (*Filter, int, api.Errno) {
	f := &Filter{matchers: make([]func([]api.Label) bool, 0, len(ms))}
	for i, m := range ms {
		holds, e := matcherOf(m)
		if e != api.OK {
			return nil, i, e
		}
		f.matchers = append(f.matchers, holds)
	}
	return f, 0, api.OK
}

// Holds: do all matchers hold of the labels?
func (f *Filter) Holds(ls []api.Label) bool {
	if f == nil {
		return false
	}
	for _, holds := range f.matchers {
		if !holds(ls) {
			return false
		}
	}
	return true
}

// Blank: does the matcher hold of the empty value?
func Blank(m api.Matcher) (bool, api.Errno) {
	f, _, e := Compile([]api.Matcher{m})
	return f.Holds(nil), e
}

// matcherOf: what a matcher asks of labels.
func matcherOf(m api.Matcher) (func(ls []api.Label) bool, api.Errno) {
	if e := fault(m); e != api.OK {
		return nil, e
	}
	meets, e := valueTest(m)
	if e != api.OK {
		return nil, e
	}
	name := strings.Clone(m.Name)
	wanted := m.Op == api.MatchEq || m.Op == api.MatchRe
	return func(ls []api.Label) bool { return meets(valueOf(ls, name)) == wanted }, api.OK
}

// fault: what is wrong with a matcher, its pattern aside.
func fault(m api.Matcher) api.Errno {
	switch {
	case m.Op < api.MatchEq || m.Op > api.MatchNre:
		return api.ErrKind
	case !lex.IsLabel(m.Name):
		return api.ErrLabels
	case !utf.Valid(m.Value):
		return api.ErrUTF
	}
	return api.OK
}

// valueTest: whether a value is the matcher's, or is matched by its pattern; != and !~ ask for the contrary.
func valueTest(m api.Matcher) (func(value string) bool, api.Errno) {
	if m.Op == api.MatchRe || m.Op == api.MatchNre {
		pattern, e := rx.Compile(m.Value)
		if e != api.OK {
			return nil, e
		}
		return pattern.Match, api.OK
	}
	want := strings.Clone(m.Value)
	return func(value string) bool { return value == want }, api.OK
}

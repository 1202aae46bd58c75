package check

import (
	"slices"

	"weir/api"
	"weir/num"
	"weir/rx"
	"weir/span"
)

// A pattern is what counts of a regex here.
type pattern struct {
	taken  bool
	hollow bool // it matches the empty text
}

// pattern: what the regex of that text is.
func (c *checker) pattern(text string) pattern {
	p, known := c.patterns[text]
	if !known {
		re, e := rx.Compile(text)
		p = pattern{taken: e == api.OK, hollow: re.Match("")}
		c.patterns[text] = p
	}
	return p
}

// selector: the fault of a selector.
func (c *checker) selector(s *api.Selector) api.Errno {
	if s.Name != "" && slices.ContainsFunc(s.Matchers, namesMetric) {
		return api.ErrNameTwo
	}
	if slices.ContainsFunc(s.Matchers, c.unreadable) {
		return api.ErrRegex
	}
	if s.Name == "" && !slices.ContainsFunc(s.Matchers, c.chooses) {
		return api.ErrBare
	}
	return when(s.When)
}

func namesMetric(m api.Matcher) bool {
	return m.Name == api.MetricName && m.Op == api.MatchEq
}

// unreadable: has the matcher a pattern that is none?
func (c *checker) unreadable(m api.Matcher) bool {
	return (m.Op == api.MatchRe || m.Op == api.MatchNre) && !c.pattern(m.Value).taken
}

// chooses: does the matcher leave out the empty text, and so every series without its label?
func (c *checker) chooses(m api.Matcher) bool {
	switch m.Op {
	case api.MatchEq:
		return m.Value != ""
	case api.MatchNe:
		return m.Value == ""
	case api.MatchRe:
		return !c.pattern(m.Value).hollow
	}
	return c.pattern(m.Value).hollow
}

// when: the fault of a time that is too far away.
func when(w api.When) api.Errno {
	switch w.At {
	case "", "start", "end":
		return api.OK
	}
	seconds, _ := num.Read(w.At)
	_, e := span.Millis(seconds)
	return e
}

package show

import (
	"weir/api"
	"weir/utf"
)

// selector writes a selector, or, with a duration, the range of it: what moves it in time stands behind the duration.
func (w *writer) selector(s *api.Selector, dur string) {
	w.put(s.Name)
	if s.Name == "" || len(s.Matchers) > 0 {
		w.matchers(s.Matchers)
	}
	if dur != "" {
		w.put("[", dur, "]")
	}
	w.when(s.When)
}

func (w *writer) matchers(list []api.Matcher) {
	w.put("{")
	for i, m := range list {
		if i > 0 {
			w.put(",")
		}
		w.put(m.Name, matchText(m.Op))
		w.literal(m.Value)
	}
	w.put("}")
}

// matchText: how a matcher's operator is written.
func matchText(op int) string {
	switch op {
	case api.MatchNe:
		return "!="
	case api.MatchRe:
		return "=~"
	case api.MatchNre:
		return "!~"
	}
	return "="
}

func (w *writer) when(m api.When) {
	if m.At != "" {
		w.put(" @ ", m.At)
	}
	if m.At == "start" || m.At == "end" {
		w.put("()")
	}
	if m.Offset != "" {
		w.put(" offset ", m.Offset)
	}
}

// literal writes a text of a tree, which is UTF-8, as it stands in a query.
func (w *writer) literal(text string) {
	quoted, _ := utf.Quote(text)
	w.put(quoted)
}

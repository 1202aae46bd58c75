package parse

import (
	"weir/api"
	"weir/lex"
)

// aggregation: does this keyword name one?
func aggregation(word string) bool {
	switch word {
	case "sum", "avg", "min", "max", "count", "group", "stddev", "stdvar", "topk", "bottomk", "quantile", "count_values":
		return true
	}
	return false
}

// aggregate: an aggregation, whose keyword stands here.
func (r *reader) aggregate(op string) part {
	r.take()
	a := &api.Aggregate{Op: op}
	grouped := r.grouping(a)
	below := r.arguments(a)
	if !grouped {
		r.grouping(a)
	}
	return r.made(a, below)
}

// grouping reads the grouping that may stand here, and tells whether there was one.
func (r *reader) grouping(a *api.Aggregate) bool {
	word := r.word()
	if word != "by" && word != "without" {
		return false
	}
	r.take()
	a.Without, a.Labels = word == "without", r.labels()
	return true
}

// arguments reads those of an aggregation, and tells how deep they are.
func (r *reader) arguments(a *api.Aggregate) int {
	r.opens("(")
	x := r.or()
	below := x.depth
	if r.pass(",") {
		a.Param = r.kid(x)
		x = r.or()
		below = max(below, x.depth)
	}
	r.closes(")")
	a.X = r.kid(x)
	return below
}

// selector: a metric's name, matchers between braces, or both.
func (r *reader) selector() part {
	s := &api.Selector{}
	named := r.metric()
	if named {
		s.Name = r.take()
	}
	if !named || r.op("{") {
		r.list("{", "}", func() { s.Matchers = append(s.Matchers, r.matcher()) })
	}
	return r.made(s, 0)
}

// metric: may the next token be a metric's name?
func (r *reader) metric() bool {
	kind := r.next().Kind
	return kind == api.TokMetric || kind == api.TokName && r.word() == ""
}

func (r *reader) matcher() api.Matcher {
	return api.Matcher{Name: r.name(), Op: r.match(), Value: r.literal()}
}

// match: the kind of the matcher whose operator stands here.
func (r *reader) match() int {
	switch {
	case r.pass("="):
		return api.MatchEq
	case r.pass("!="):
		return api.MatchNe
	case r.pass("=~"):
		return api.MatchRe
	case r.pass("!~"):
		return api.MatchNre
	}
	r.wrong()
	return 0
}

// labels: the names of labels between brackets.
func (r *reader) labels() []string {
	var names []string
	r.list("(", ")", func() { names = append(names, r.name()) })
	return names
}

// list reads what stands between two brackets, with commas between each two and perhaps behind the last, as many as there are.
func (r *reader) list(from, to string, one func()) {
	r.opens(from)
	for !r.op(to) {
		one()
		if !r.pass(",") {
			break
		}
	}
	r.closes(to)
}

// name: a label's name. Keywords may be one, and so may inf and nan, which are numbers elsewhere.
func (r *reader) name() string {
	if !lex.IsLabel(r.next().Text) {
		r.wrong()
	}
	return r.take()
}

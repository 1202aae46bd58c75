package labels

import (
	"strings"

	"weir/api"
	"weir/lex"
	"weir/utf"
)

// Text: a label set as a text; "" for a list that is none.
func Text(ls []api.Label) string {
	if !Valid(ls) {
		return ""
	}
	metric := valueOf(ls, api.MetricName)
	ahead := lex.IsMetric(metric)
	var parts []string
	for _, l := range ls {
		if l.Name != api.MetricName || !ahead {
			parts = append(parts, labelText(l))
		}
	}
	braces := "{" + strings.Join(parts, ", ") + "}"
	switch {
	case !ahead:
		return braces
	case len(parts) == 0:
		return strings.Clone(metric)
	}
	return metric + braces
}

// labelText: a label of a set, whose value is UTF-8, as it stands in braces.
func labelText(l api.Label) string {
	value, _ := utf.Quote(l.Value)
	return l.Name + "=" + value
}

// Read: the label set of a text.
func Read(text string) ([]api.Label, api.Errno) {
	toks, _, e := lex.Scan(text)
	if e != api.OK {
		return nil, e
	}
	pairs, ok := pairsOf(toks)
	if !ok {
		return nil, api.ErrLabels
	}
	return Make(pairs)
}

// pairsOf: the pairs that tokens stand for, the metric as the first; false, if they stand for none.
func pairsOf(toks []api.Token) ([]api.Label, bool) {
	if len(toks) == 0 || !isMetric(toks[0]) {
		return bracedPairs(toks)
	}
	pairs := []api.Label{{Name: api.MetricName, Value: toks[0].Text}}
	if len(toks) == 1 {
		return pairs, true
	}
	more, ok := bracedPairs(toks[1:])
	return append(pairs, more...), ok
}

// isMetric: may the token be a metric? A number that is a word (inf, nan) may, as a text of a set with such a name holds it.
func isMetric(t api.Token) bool {
	switch t.Kind {
	case api.TokName, api.TokMetric:
		return true
	case api.TokNumber:
		return lex.IsLabel(t.Text)
	}
	return false
}

// bracedPairs: the pairs of labels in braces.
func bracedPairs(toks []api.Token) ([]api.Label, bool) {
	last := len(toks) - 1
	if last < 1 || !isOp(toks[0], "{") || !isOp(toks[last], "}") {
		return nil, false
	}
	var pairs []api.Label
	for rest := toks[1:last]; len(rest) > 0; {
		if !beginsPair(rest) {
			return nil, false
		}
		value, _ := utf.Unquote(rest[2].Text) // lex.Scan has seen that it can be read
		pairs = append(pairs, api.Label{Name: rest[0].Text, Value: value})
		rest = rest[3:]
		if len(rest) > 0 {
			rest = rest[1:]
		}
	}
	return pairs, true
}

// beginsPair: does a label stand ahead of all, with a comma behind it or the end?
func beginsPair(toks []api.Token) bool {
	if len(toks) < 3 || toks[0].Kind != api.TokName || !isOp(toks[1], "=") || toks[2].Kind != api.TokString {
		return false
	}
	return len(toks) == 3 || isOp(toks[3], ",")
}

func isOp(t api.Token, op string) bool { return t.Kind == api.TokOp && t.Text == op }

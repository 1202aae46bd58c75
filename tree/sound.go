package tree

import (
	"strings"

	"weir/api"
	"weir/lex"
	"weir/utf"
)

// eachSound: is each row sound, and a selector's row behind each range's?
func eachSound(rows []api.Row) bool {
	for i, r := range rows {
		if !sound(r) {
			return false
		}
		if r.Kind == api.NodeRange && (i+1 == len(rows) || rows[i+1].Kind != api.NodeSelector) {
			return false
		}
	}
	return true
}

// measure: the depth of the tree that the rows make, and whether they make just one. It asks nothing of the rows but their Kids, and doesn't go down into them: they may stand in one another as deep as they like.
func measure(rows []api.Row) (depth int, whole bool) {
	missing := []int{1} // on the way down to a node: how many kids of each node above it are still to come, and the root itself
	for _, r := range rows {
		for len(missing) > 0 && missing[len(missing)-1] == 0 {
			missing = missing[:len(missing)-1]
		}
		if len(missing) == 0 {
			return 0, false
		}
		depth = max(depth, len(missing))
		missing[len(missing)-1]--
		missing = append(missing, r.Kids)
	}
	for _, n := range missing {
		if n > 0 {
			return 0, false
		}
	}
	return depth, true
}

// sound: is a row sound? A field that the row's kind doesn't name gets lost on the way to the node and back.
func sound(r api.Row) bool {
	node := fromRow(r)
	if !kidsFit(r) || !fits(node) {
		return false
	}
	back := plainRow(node)
	back.Kids = r.Kids
	return sameRow(r, back)
}

// kidsFit: has a row as many kids as one of its kind may have?
func kidsFit(r api.Row) bool {
	switch r.Kind {
	case api.NodeRange, api.NodeSubquery, api.NodeUnary:
		return r.Kids == 1
	case api.NodeBinary:
		return r.Kids == 2
	case api.NodeCall:
		return r.Kids >= 0
	case api.NodeAggregate:
		return r.Kids == 1 || r.Kids == 2
	}
	return r.Kids == 0
}

// fits: may a node's fields, its kids left aside, stand in a tree? The nil of a row without a known kind fits nowhere.
func fits(node api.Expr) bool {
	switch n := node.(type) {
	case *api.Number:
		return isLexeme(n.Lexeme)
	case *api.Text:
		return utf.Valid(n.Value)
	case *api.Selector:
		return selectorFits(n)
	case *api.Range:
		return isDuration(n.Dur)
	case *api.Subquery:
		return isDuration(n.Dur) && (n.Step == "" || isDuration(n.Step)) && isOffset(n.Offset) && isAt(n.At)
	case *api.Unary:
		return n.Op == "+" || n.Op == "-"
	case *api.Binary:
		return isOperator(n.Op) && matchingFits(n.Matching)
	case *api.Call:
		return isFunction(n.Name)
	case *api.Aggregate:
		return isAggregation(n.Op) && allLabels(n.Labels)
	}
	return false
}

// selectorFits: may this selector stand in a tree?
func selectorFits(s *api.Selector) bool {
	for _, m := range s.Matchers {
		if !lex.IsLabel(m.Name) || m.Op < api.MatchEq || m.Op > api.MatchNre || !utf.Valid(m.Value) {
			return false
		}
	}
	return (s.Name == "" || isMetric(s.Name)) && isOffset(s.Offset) && isAt(s.At)
}

func matchingFits(m api.Matching) bool {
	if !m.Given {
		return sameMatching(m, api.Matching{})
	}
	if m.Card == api.CardOne && len(m.Include) > 0 {
		return false
	}
	return m.Card >= api.CardOne && m.Card <= api.CardRight && allLabels(m.Labels) && allLabels(m.Include)
}

func allLabels(list []string) bool {
	for _, s := range list {
		if !lex.IsLabel(s) {
			return false
		}
	}
	return true
}

// kindOf: the kind of the one token that a text is, as it stands; 0, where it is none. Of long texts it knows names alone, so as not to cut up all of one for nothing: lexemes aren't long, and strings nobody asks for.
func kindOf(text string) int {
	if len(text) > api.MaxNumber && !lex.IsMetric(text) {
		return 0
	}
	toks, _, e := lex.Scan(text)
	if e != api.OK || len(toks) != 1 || toks[0].Text != text {
		return 0
	}
	return toks[0].Kind
}

func isLexeme(text string) bool {
	kind := kindOf(text)
	return kind == api.TokNumber || kind == api.TokSpan
}

func isDuration(text string) bool {
	return kindOf(text) == api.TokSpan
}

func isOffset(text string) bool {
	return text == "" || isDuration(strings.TrimPrefix(text, "-"))
}

func isAt(text string) bool {
	return text == "" || text == "start" || text == "end" || kindOf(text) == api.TokNumber
}

// isMetric: may a selector name its metric so? A keyword would be read as something else.
func isMetric(name string) bool {
	_, keyword := lex.Word(name)
	kind := kindOf(name)
	return !keyword && (kind == api.TokName || kind == api.TokMetric)
}

func isFunction(name string) bool {
	_, keyword := lex.Word(name)
	return !keyword && kindOf(name) == api.TokName
}

func isOperator(op string) bool {
	switch op {
	case "or", "and", "unless", "==", "!=", "<", ">", "<=", ">=", "+", "-", "*", "/", "%", "^":
		return true
	}
	return false
}

func isAggregation(op string) bool {
	switch op {
	case "avg", "bottomk", "count", "count_values", "group", "max", "min", "quantile", "stddev", "stdvar", "sum", "topk":
		return true
	}
	return false
}

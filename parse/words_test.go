package parse_test

import (
	"fmt"
	"slices"
	"strings"
	"testing"

	"weir/api"
	"weir/lex"
	"weir/parse"
	"weir/tree"
	"weir/utf"
)

// The chapter's words, written down a second time and in another way: its grammar as it stands there, taken by a machine that tries out every way to read tokens by it; modifiers held against the tokens ahead of them, read backward; trees as rows.

// grammar: the chapter's. Beside its tokens there are edge, a func whose Text is start or end, and open, which takes no token and can't stand ahead of a "(".
const grammar = `
query     = or
or        = and { "or" mods and }
and       = compare { ( "and" | "unless" ) mods compare }
compare   = sum { ( "==" | "!=" | "<" | ">" | "<=" | ">=" ) mods sum }
sum       = product { ( "+" | "-" ) mods product }
product   = unary { ( "*" | "/" | "%" ) mods unary }
unary     = ( "+" | "-" ) unary | power
power     = postfix [ "^" mods unary ]
postfix   = primary { "[" dur "]" | "[" dur ":" [ dur ] "]" | "offset" [ "-" ] dur | "@" time }
time      = number | edge "(" ")"
primary   = number | dur | string | "(" or ")" | call | aggregate | selector
call      = func "(" [ or { "," or } ] ")"
aggregate = aggr ( grouping "(" arguments ")" | "(" arguments ")" [ grouping ] )
arguments = or [ "," or ]
grouping  = ( "by" | "without" ) labels
selector  = metric [ "{" matchers "}" ] | "{" matchers "}"
matchers  = [ matcher { "," matcher } [ "," ] ]
matcher   = name ( "=" | "!=" | "=~" | "!~" ) string
mods      = [ "bool" ] [ ( "on" | "ignoring" ) labels [ ( "group_left" | "group_right" ) ( labels | open ) ] ]
labels    = "(" [ name { "," name } [ "," ] ] ")"
`

// A form is the right side of a rule, or a piece of it.
type form struct {
	how  byte // '|' one of the kids, '&' all of them in order, '{' the kid any number of times, '[' once or never, 'r' the rule of that name, 't' a token
	name string
	kids []form
}

// rules: the grammar's rules by their names.
func rules() map[string]form {
	list := map[string]form{}
	for _, line := range strings.Split(strings.TrimSpace(grammar), "\n") {
		name, right, _ := strings.Cut(line, "=")
		words := strings.Fields(right)
		list[strings.TrimSpace(name)] = choice(&words)
	}
	return list
}

// choice: the form at the head of words, up to the end or a closing bracket, which is taken.
func choice(words *[]string) form {
	all, one := form{how: '|'}, form{how: '&'}
	for len(*words) > 0 {
		word := (*words)[0]
		*words = (*words)[1:]
		switch word {
		case "|":
			all.kids = append(all.kids, one)
			one = form{how: '&'}
		case "(":
			one.kids = append(one.kids, choice(words))
		case "{", "[":
			one.kids = append(one.kids, form{how: word[0], kids: []form{choice(words)}})
		case ")", "}", "]":
			all.kids = append(all.kids, one)
			return all
		default:
			one.kids = append(one.kids, leaf(word))
		}
	}
	all.kids = append(all.kids, one)
	return all
}

func leaf(word string) form {
	if word[0] == '"' || slices.Contains([]string{"number", "dur", "string", "func", "metric", "name", "aggr", "edge", "open"}, word) {
		return form{how: 't', name: strings.Trim(word, `"`)}
	}
	return form{how: 'r', name: word}
}

const aggregations = " sum avg min max count group stddev stdvar topk bottomk quantile count_values "

// fits: is this token one of that name?
func fits(name string, tok api.Token) bool {
	word, keyword := lex.Word(tok.Text)
	keyword = keyword && tok.Kind == api.TokName
	function := tok.Kind == api.TokName && !keyword
	switch name {
	case "number":
		return tok.Kind == api.TokNumber
	case "dur":
		return tok.Kind == api.TokSpan
	case "string":
		return tok.Kind == api.TokString
	case "func":
		return function
	case "metric":
		return function || tok.Kind == api.TokMetric
	case "name":
		return tok.Kind == api.TokName || tok.Kind == api.TokNumber && !strings.Contains(".0123456789", tok.Text[:1])
	case "aggr":
		return keyword && strings.Contains(aggregations, " "+word+" ")
	case "edge":
		return function && (tok.Text == "start" || tok.Text == "end")
	}
	return keyword && word == name || tok.Kind == api.TokOp && tok.Text == name
}

// A knot is a rule with what it was read from, or a token.
type knot struct {
	rule string
	tok  api.Token
	kids []*knot
}

// A way is one way to have read a form: up to which token, and as what.
type way struct {
	end   int
	knots []*knot
}

// A machine reads tokens by the grammar in all ways there are.
type machine struct {
	rules map[string]form
	toks  []api.Token
	seen  map[string][]way
	far   int // how many tokens were ever taken on one way: as many begin a query
}

func (m *machine) ways(f form, at int) []way {
	switch f.how {
	case '|':
		var all []way
		for _, kid := range f.kids {
			all = append(all, m.ways(kid, at)...)
		}
		return all
	case '&':
		all := []way{{end: at}}
		for _, kid := range f.kids {
			all = m.onward(all, kid)
		}
		return all
	case '[':
		return append(m.ways(f.kids[0], at), way{end: at})
	case '{':
		all := []way{{end: at}}
		for last := all; len(last) > 0; {
			last = m.onward(last, f.kids[0])
			all = append(all, last...)
		}
		return all
	case 'r':
		return m.rule(f.name, at)
	}
	return m.token(f.name, at)
}

// onward: each of these ways with a form behind it.
func (m *machine) onward(ways []way, f form) []way {
	var all []way
	for _, w := range ways {
		for _, more := range m.ways(f, w.end) {
			all = append(all, way{more.end, slices.Concat(w.knots, more.knots)})
		}
	}
	return all
}

func (m *machine) rule(name string, at int) []way {
	key := fmt.Sprint(name, at)
	if known, ok := m.seen[key]; ok {
		return known
	}
	var all []way
	for _, w := range m.ways(m.rules[name], at) {
		all = append(all, way{w.end, []*knot{{rule: name, kids: w.knots}}})
	}
	m.seen[key] = all
	return all
}

func (m *machine) token(name string, at int) []way {
	if name == "open" {
		if at < len(m.toks) && fits("(", m.toks[at]) {
			return nil
		}
		return []way{{end: at}}
	}
	if at == len(m.toks) || !fits(name, m.toks[at]) {
		return nil
	}
	m.far = max(m.far, at+1)
	return []way{{at + 1, []*knot{{tok: m.toks[at]}}}}
}

// chapter: the grammar's rules, read but once.
var chapter = rules()

// read: how these tokens are read by a rule; nil, if not at all, and how many of them begin something that is.
func read(rule string, toks []api.Token) (*knot, int) {
	m := &machine{rules: chapter, toks: toks, seen: map[string][]way{}}
	var whole []*knot
	for _, w := range m.rule(rule, 0) {
		if w.end == len(toks) {
			whole = append(whole, w.knots...)
		}
	}
	if len(whole) > 1 {
		panic("the grammar reads " + lex.Join(toks) + " in more than one way")
	}
	if len(whole) == 0 {
		return nil, m.far
	}
	return whole[0], m.far
}

// thing: what the tokens end with that a modifier may be about, and which of the two it has: read from the right.
func thing(toks []api.Token) (kind string, offset, at bool) {
	is := func(back int, name string) bool {
		return len(toks) >= back && fits(name, toks[len(toks)-back])
	}
	cut := func(n int) []api.Token { return toks[:len(toks)-n] }
	switch {
	case is(1, "dur") && is(2, "offset"):
		kind, _, at = thing(cut(2))
		return kind, true, at
	case is(1, "dur") && is(2, "-") && is(3, "offset"):
		kind, _, at = thing(cut(3))
		return kind, true, at
	case is(1, "number") && is(2, "@"):
		kind, offset, _ = thing(cut(2))
		return kind, offset, true
	case is(1, ")") && is(2, "(") && is(3, "edge") && is(4, "@"):
		kind, offset, _ = thing(cut(4))
		return kind, offset, true
	case is(1, "]") && is(3, "["):
		return "range", false, false
	case is(1, "]"):
		return "subquery", false, false
	case is(1, "}"), is(1, "metric"):
		return "selector", false, false
	}
	return "", false, false
}

// misplaced: is this token a modifier behind a thing that can't take it?
func misplaced(ahead []api.Token, tok api.Token) bool {
	n := len(ahead)
	if fits("]", tok) && fits("[", ahead[n-2]) && fits("dur", ahead[n-1]) {
		kind, offset, at := thing(ahead[:n-2])
		return kind != "selector" || offset || at
	}
	kind, offset, at := thing(ahead)
	return fits("offset", tok) && (kind == "" || offset) || fits("@", tok) && (kind == "" || at)
}

// listed: the tokens that stand as names in labels or matchers, which are no modifiers.
func listed(toks []api.Token, i int) bool {
	return i > 0 && (fits("(", toks[i-1]) || fits("{", toks[i-1]) || fits(",", toks[i-1]))
}

// misfit: the first token, of those that can stand where they stand, that is refused all the same, and why.
func misfit(toks []api.Token) (int, api.Errno) {
	open := 0
	for i, tok := range toks {
		if tok.Kind == api.TokOp && strings.Contains("([{", tok.Text) {
			if open == 300 {
				return i, api.ErrBrackets
			}
			open++
		}
		if tok.Kind == api.TokOp && strings.Contains(")]}", tok.Text) {
			open--
		}
		if !listed(toks, i) && misplaced(toks[:i], tok) {
			return i, api.ErrModifier
		}
	}
	return 0, api.OK
}

// An answer is what Parse and Selector answer, with the tree as a text.
type answer struct {
	told  string
	place int
	e     api.Errno
}

// wanted: what the chapter says that a text's answer is, by the rule query or selector.
func wanted(rule, text string) answer {
	toks, place, e := lex.Scan(text)
	if e != api.OK {
		return answer{"none", place, e}
	}
	whole, far := read(rule, toks)
	if i, e := misfit(toks[:far]); e != api.OK {
		return answer{"none", toks[i].At, e}
	}
	if whole == nil && far < len(toks) {
		return answer{"none", toks[far].At, api.ErrSyntax}
	}
	if whole == nil {
		return answer{"none", len(text), api.ErrEnd}
	}
	rows := rowsOf(whole)
	if depth, _ := deep(rows); depth > 128 {
		return answer{"none", 0, api.ErrDepth}
	}
	all, _ := nested(rows)
	return answer{all, 0, api.OK}
}

// deep: the depth of the tree at the head of rows, and the rows behind it.
func deep(rows []api.Row) (int, []api.Row) {
	depth, rest := 0, rows[1:]
	for range rows[0].Kids {
		var one int
		one, rest = deep(rest)
		depth = max(depth, one)
	}
	return depth + 1, rest
}

// rowsOf: the rows of what was read.
func rowsOf(k *knot) []api.Row {
	switch k.rule {
	case "or", "and", "compare", "sum", "product", "power":
		rows := rowsOf(k.kids[0])
		for i := 1; i < len(k.kids); i += 3 {
			b := modded(k.kids[i+1])
			b.Op = keyword(k.kids[i].tok)
			rows = slices.Concat([]api.Row{b}, rows, rowsOf(k.kids[i+2]))
		}
		return rows
	case "unary":
		if len(k.kids) == 2 {
			return slices.Concat([]api.Row{{Kind: 6, Kids: 1, Op: k.kids[0].tok.Text}}, rowsOf(k.kids[1]))
		}
	case "postfix":
		return modified(rowsOf(k.kids[0]), k.kids[1:])
	case "primary":
		return rowsOf(k.kids[len(k.kids)/2])
	case "call":
		rows := []api.Row{{Kind: 8, Op: k.kids[0].tok.Text, Kids: (len(k.kids) - 2) / 2}}
		for i := 2; i < len(k.kids)-1; i += 2 {
			rows = append(rows, rowsOf(k.kids[i])...)
		}
		return rows
	case "aggregate":
		return aggregated(k)
	case "selector":
		return []api.Row{selected(k)}
	case "":
		return []api.Row{plain(k.tok)}
	}
	return rowsOf(k.kids[0])
}

func keyword(tok api.Token) string {
	if word, ok := lex.Word(tok.Text); ok {
		return word
	}
	return tok.Text
}

// plain: the row of a number, a duration or a string.
func plain(tok api.Token) api.Row {
	if tok.Kind == api.TokString {
		return api.Row{Kind: 2, Text: unquoted(tok)}
	}
	return api.Row{Kind: 1, Text: tok.Text}
}

func unquoted(tok api.Token) string {
	value, e := utf.Unquote(tok.Text)
	if e != api.OK {
		panic("a string that can't be read")
	}
	return value
}

// names: the Texts of the names of labels.
func names(k *knot) []string {
	var list []string
	for i := 1; i < len(k.kids)-1; i += 2 {
		list = append(list, k.kids[i].tok.Text)
	}
	return list
}

// modded: a row with the mods between two things.
func modded(k *knot) api.Row {
	b := api.Row{Kind: 7, Kids: 2}
	for i, kid := range k.kids {
		switch keyword(kid.tok) {
		case "bool":
			b.Bool = true
		case "on", "ignoring":
			b.Matching.Given, b.Matching.On, b.Matching.Labels = true, len(kid.tok.Text) == 2, names(k.kids[i+1])
		case "group_left", "group_right":
			b.Matching.Card = len(kid.tok.Text) - 9
			if i+1 < len(k.kids) {
				b.Matching.Include = names(k.kids[i+1])
			}
		}
	}
	return b
}

// modified: the rows of a thing with what stands behind it.
func modified(rows []api.Row, behind []*knot) []api.Row {
	for i, k := range behind {
		moved := &rows[0]
		if rows[0].Kind == 4 {
			moved = &rows[1]
		}
		switch {
		case k.rule == "time":
			moved.When.At = k.kids[0].tok.Text
		case fits("offset", k.tok) && fits("-", behind[i+1].tok):
			moved.When.Offset = "-" + behind[i+2].tok.Text
		case fits("offset", k.tok):
			moved.When.Offset = behind[i+1].tok.Text
		case fits("[", k.tok) && fits("]", behind[i+2].tok):
			rows = slices.Concat([]api.Row{{Kind: 4, Kids: 1, Dur: behind[i+1].tok.Text}}, rows)
		case fits("[", k.tok):
			r := api.Row{Kind: 5, Kids: 1, Dur: behind[i+1].tok.Text}
			if fits("dur", behind[i+3].tok) {
				r.Step = behind[i+3].tok.Text
			}
			rows = slices.Concat([]api.Row{r}, rows)
		}
	}
	return rows
}

func aggregated(k *knot) []api.Row {
	a := api.Row{Kind: 9, Op: keyword(k.kids[0].tok)}
	var rows []api.Row
	for _, kid := range k.kids {
		switch kid.rule {
		case "grouping":
			a.Without, a.Labels = strings.EqualFold(kid.kids[0].tok.Text, "without"), names(kid.kids[1])
		case "arguments":
			for i := 0; i < len(kid.kids); i += 2 {
				a.Kids++
				rows = append(rows, rowsOf(kid.kids[i])...)
			}
		}
	}
	return append([]api.Row{a}, rows...)
}

func selected(k *knot) api.Row {
	s := api.Row{Kind: 3}
	for _, kid := range k.kids {
		switch {
		case kid.rule == "matchers":
			for i := 0; i < len(kid.kids); i += 2 {
				m := kid.kids[i].kids
				s.Matchers = append(s.Matchers, api.Matcher{Name: m[0].tok.Text, Op: 1 + slices.Index([]string{"=", "!=", "=~", "!~"}, m[1].tok.Text), Value: unquoted(m[2].tok)})
			}
		case kid.tok.Kind != api.TokOp:
			s.Text = kid.tok.Text
		}
	}
	return s
}

// line: a row without its Kind and Kids as a text.
func line(r api.Row) string {
	asked := ""
	for _, m := range r.Matchers {
		asked += fmt.Sprintf("%q %d %q, ", m.Name, m.Op, m.Value)
	}
	return fmt.Sprintf("op %q text %q matchers [%s] dur %q step %q when %q bool %v matching %v %v %q %d %q without %v labels %q", r.Op, r.Text, asked, r.Dur, r.Step, r.When, r.Bool, r.Matching.Given, r.Matching.On, r.Matching.Labels, r.Matching.Card, r.Matching.Include, r.Without, r.Labels)
}

// nested: the tree at the head of rows as a text, and the rows behind it.
func nested(rows []api.Row) (string, []api.Row) {
	text, rest := fmt.Sprintf("%d<%s", rows[0].Kind, line(rows[0])), rows[1:]
	for range rows[0].Kids {
		var kid string
		kid, rest = nested(rest)
		text += " " + kid
	}
	return text + ">", rest
}

// told: a tree as nested tells its rows, but read from its nodes.
func told(node api.Expr) string {
	var r api.Row
	switch n := node.(type) {
	case *api.Number:
		r.Text = n.Lexeme
	case *api.Text:
		r.Text = n.Value
	case *api.Selector:
		r.Text, r.Matchers, r.When.Offset, r.When.At = n.Name, n.Matchers, n.Offset, n.At
	case *api.Range:
		r.Dur = n.Dur
	case *api.Subquery:
		r.Dur, r.Step, r.When.Offset, r.When.At = n.Dur, n.Step, n.Offset, n.At
	case *api.Unary:
		r.Op = n.Op
	case *api.Binary:
		r.Op, r.Bool, r.Matching = n.Op, n.Bool, n.Matching
	case *api.Call:
		r.Op = n.Name
	case *api.Aggregate:
		r.Op, r.Without, r.Labels = n.Op, n.Without, n.Labels
	default:
		return "none"
	}
	text := fmt.Sprintf("%d<%s", node.Kind(), line(r))
	for _, kid := range below(node) {
		text += " " + told(kid)
	}
	return text + ">"
}

// below: a node's kids.
func below(node api.Expr) []api.Expr {
	switch n := node.(type) {
	case *api.Range:
		return []api.Expr{n.Of}
	case *api.Subquery:
		return []api.Expr{n.X}
	case *api.Unary:
		return []api.Expr{n.X}
	case *api.Binary:
		return []api.Expr{n.X, n.Y}
	case *api.Call:
		return n.Args
	case *api.Aggregate:
		if n.Param != nil {
			return []api.Expr{n.Param, n.X}
		}
		return []api.Expr{n.X}
	}
	return nil
}

// parsed, picked: what Parse and Selector answer.
func parsed(text string) answer {
	x, place, e := parse.Parse(text)
	return answer{told(x.Root), place, e}
}

func picked(text string) answer {
	x, place, e := parse.Selector(text)
	return answer{told(x.Root), place, e}
}

// agree: both calls answer by the chapter's words; what they answer is handed back.
func agree(t *testing.T, text string) (answer, answer) {
	t.Helper()
	query, selector := parsed(text), picked(text)
	if want := wanted("query", text); query != want {
		t.Fatalf("Parse of %.300q: %+v, not %+v", text, query, want)
	}
	if want := wanted("selector", text); selector != want {
		t.Fatalf("Selector of %.300q: %+v, not %+v", text, selector, want)
	}
	return query, selector
}

// built: the tree of a text that is taken, held against its rows.
func built(t *testing.T, text string) api.Tree {
	t.Helper()
	x, place, e := parse.Parse(text)
	if e != api.OK || place != 0 {
		t.Fatalf("%.300q: %d at %d", text, e, place)
	}
	if again, e := tree.Build(tree.Rows(x)); e != api.OK || !tree.Same(x, again) {
		t.Fatalf("%.300q: its rows make %s (%d)", text, told(again.Root), e)
	}
	return x
}

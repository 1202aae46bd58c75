package parse_test

import (
	"math/rand/v2"
	"slices"
	"strings"

	"weir/api"
	"weir/lex"
)

// vocabulary: a token of each sort that the grammar tells apart, and some that it takes nowhere.
func vocabulary() []string {
	return []string{"up", "a:b", "start", "end", "1", "inf", "5m", "'v'", "(", ")", "[", "]", "{", "}", ",", ":", "@", "=", "=~", "!~", "!=", "==", "<", "+", "-", "*", "^",
		"or", "and", "unless", "bool", "on", "ignoring", "group_left", "group_right", "by", "without", "offset", "sum", "topk"}
}

// broad: what may stand for each of the grammar's sorts of tokens.
func broad(name string) []string {
	switch name {
	case "number":
		return []string{"1", "2.5", "0x1F", "1e3", ".5", "inf", "Inf", "NaN", "nan", "0"}
	case "dur":
		return []string{"5m", "1h30m", "0s", "1y", "90d", "1ms"}
	case "string":
		return []string{`"x"`, `'y'`, "`z`", `""`, `"\n\x41é"`, `'\'"'`, "`\\`", `"é"`, "`a\nb`", `"{"`, `')'`, `"#"`}
	case "func":
		return []string{"up", "rate", "time", "start", "end", "Start", "END", "_", "a1", "e", "x", "byx", "sums", "infx"}
	case "metric":
		return []string{"up", "a:b", ":", ":5", "sum:", "start", "end", "foo_bar", "by:x", "X", "rate"}
	case "name":
		return []string{"job", "a", "By", "on", "sum", "offset", "bool", "inf", "NaN", "start", "__name__", "group_left", "or", "_", "OR"}
	case "aggr":
		return slices.Concat(strings.Fields(aggregations), []string{"Sum", "TOPK", "Count_Values"})
	case "edge":
		return []string{"start", "end"}
	}
	return []string{name, strings.ToUpper(name), strings.ToUpper(name[:1]) + name[1:]}
}

// A writer makes texts by chance.
type writer struct {
	dice *rand.Rand
	left int // how many more tokens there may be, about
}

func newWriter(seed uint64) *writer {
	return &writer{dice: rand.New(rand.NewPCG(seed, 13)), left: 1 << 40}
}

func (w *writer) one(list []string) string {
	return list[w.dice.IntN(len(list))]
}

// write: tokens by a form of the grammar; the less room there is left, the plainer.
func (w *writer) write(f form, room int) []string {
	switch f.how {
	case '|':
		return w.write(f.kids[w.dice.IntN(len(f.kids))], room)
	case '&':
		var all []string
		for _, kid := range f.kids {
			all = append(all, w.write(kid, room)...)
		}
		return all
	case '[', '{':
		var all []string
		for room > 0 && w.left > 0 && w.dice.IntN(3) == 0 {
			all = append(all, w.write(f.kids[0], room-1)...)
			if f.how == '[' {
				break
			}
		}
		return all
	case 'r':
		return w.rule(f.name, room-1)
	}
	if f.name == "open" {
		return nil
	}
	w.left--
	return []string{w.one(broad(f.name))}
}

// rule: tokens by a rule. Where there is no room left, of the rules that call themselves the way out is taken.
func (w *writer) rule(name string, room int) []string {
	right := chapter[name]
	if w.left <= 0 {
		room = 0
	}
	switch {
	case name == "unary" && (room <= 0 || w.dice.IntN(4) > 0):
		return w.write(right.kids[1], room)
	case name == "primary" && room <= 0:
		return w.write(right.kids[w.dice.IntN(3)], room)
	case name == "primary" && w.dice.IntN(2) > 0:
		return w.write(right.kids[6], room)
	}
	return w.write(right, room)
}

// query: the tokens of a query, at most so many.
func (w *writer) query(most int) []string {
	for {
		w.left = most
		if toks := w.rule("query", 10+w.dice.IntN(20)); len(toks) <= most {
			return toks
		}
	}
}

// spoiled: tokens with something done to them, so that they may be a query no more.
func (w *writer) spoiled(toks []string) []string {
	i, k := w.dice.IntN(len(toks)), w.dice.IntN(len(toks))
	switch w.dice.IntN(6) {
	case 0:
		return slices.Delete(toks, i, i+1)
	case 1:
		return slices.Insert(toks, i, w.one(vocabulary()))
	case 2:
		toks[i], toks[k] = toks[k], toks[i]
	case 3:
		toks[i] = w.one(vocabulary())
	case 4:
		return slices.Insert(toks, i, toks[k])
	case 5:
		return append(toks, w.one(vocabulary()))
	}
	return toks
}

// modifiers: tokens with some of those that stand behind things put in.
func (w *writer) modifiers(toks []string) []string {
	for range 1 + w.dice.IntN(3) {
		more := strings.Fields(w.one([]string{"offset 5m", "offset - 1h", "@ 1", "@ start ( )", "@ end ( )", "[ 5m ]", "[ 5m : ]", "[ 5m : 1m ]"}))
		toks = slices.Insert(toks, w.dice.IntN(len(toks)+1), more...)
	}
	return toks
}

// spread: a text of these tokens, with gaps of all sorts.
func (w *writer) spread(toks []string) string {
	var b strings.Builder
	b.WriteString(w.one([]string{"", "", " ", "\n", "# up\n"}))
	for i, tok := range toks {
		if i > 0 && !(strings.Contains("(),[]{}", tok) && w.dice.IntN(2) == 0) {
			b.WriteString(w.one([]string{" ", " ", " ", "  ", "\t", "\n", "\r\n", " # a ) remark\n", "#\n"}))
		}
		b.WriteString(tok)
	}
	b.WriteString(w.one([]string{"", "", " ", "\n", " # the end", "#"}))
	return b.String()
}

// texts: a text of tokens by chance: a query, a selector, a spoiled one or one with modifiers put in.
func (w *writer) text(most int) string {
	toks := w.query(most)
	switch w.dice.IntN(8) {
	case 0:
		w.left = most
		toks = w.rule("selector", 30)
	case 1, 2:
		toks = w.spoiled(toks)
	case 3:
		toks = toks[:w.dice.IntN(len(toks)+1)]
	case 4, 5:
		toks = w.modifiers(toks)
	}
	return w.spread(toks)
}

// cut: the tokens' Texts of a text that lex.Scan takes.
func cut(text string) []string {
	toks, _, e := lex.Scan(text)
	if e != api.OK {
		panic("no tokens: " + text)
	}
	var list []string
	for _, tok := range toks {
		list = append(list, tok.Text)
	}
	return list
}

// samples: queries that between them take each rule of the grammar, and each of its choices.
func samples() []string {
	return []string{
		"1 + 2 * 3",
		"-2 ^ 2",
		"2 ^ 3 ^ -2",
		"a == bool on (x) group_left (y, z) b",
		`rate(up{job="a"}[5m] offset -1m)`,
		"max_over_time(sum by (job) (up)[1h:] @ end())",
		"topk(3, up) without (a,)",
		`{By="x"}`,
		"a or b and c unless d",
		"a != b < c > d <= e >= f == g",
		"a - b / c % d",
		"+ - + 1",
		"a * ignoring () group_right b",
		"a * on (x,) group_right () (b)",
		"a or on (x, y) b",
		"a ^ bool ignoring (x) -b",
		"up{} offset 1h @ 1e3",
		"up[5m] @ start() offset 5m",
		"(up)[5m:1m] offset -1h @ inf",
		"up offset 1m [5m:][1h:1m] @ nan",
		"5m + 'a' + \"b\" + `c`",
		"f() + g(1) + h(1, 'x', up[1m])",
		"sum without (a, b) (x)",
		"count_values by () (\"v\", x)",
		"quantile(0.5, (x)) by (inf, nan, on)",
		`a:b{a="1",b!="2",c=~"3",d!~"4"}`,
		`{a="1",}`,
		`:{}`,
		"((1))",
		"start(end, start) + end",
		"inf * NaN",
		"sum(a) + SUM(b) AND c",
		"-(1 + 2)",
		"sum by (offset) (offset_total offset 5m)",
	}
}

package show_test

import (
	"slices"
	"strings"
	"testing"

	"weir/api"
	"weir/show"
	"weir/tree"
)

// P15.1: the chapter's examples.
func TestExamples(t *testing.T) {
	for _, c := range [][2]string{
		{"((1 + 2)) * 3", "(1 + 2) * 3"},
		{"1 + (2 * 3)", "1 + 2 * 3"},
		{"1 - (2 - 3)", "1 - (2 - 3)"},
		{"(1 - 2) - 3", "1 - 2 - 3"},
		{"(-2) ^ 2", "(-2) ^ 2"},
		{"-(2 ^ 2)", "-2 ^ 2"},
		{"2 ^ (-(3 ^ 4))", "2 ^ -3 ^ 4"},
		{"(2 ^ 3) ^ 4", "(2 ^ 3) ^ 4"},
		{"-(-(a))", "--a"},
		{"-(a + b)", "-(a + b)"},
		{`up{ a = 'x' , b=~"y", } offset - 5m @ start( )`, `up{a="x",b=~"y"} @ start() offset -5m`},
		{"up [ 5m ] offset 1h", "up[5m] offset 1h"},
		{"(a + b)[1h:] @ 7", "(a + b)[1h:] @ 7"},
		{"(-a)[1h:5m]", "(-a)[1h:5m]"},
		{"rate(up[5m])[1h:5m]", "rate(up[5m])[1h:5m]"},
		{"a == bool on ( x, y ) group_left b", "a == bool on(x,y) group_left() b"},
		{"a * ignoring() (b or c)", "a * ignoring() (b or c)"},
		{"sum (a) by (x, y)", "sum by(x,y) (a)"},
		{"topk without () (3, a)", "topk without() (3, a)"},
		{"sum by () (a)", "sum(a)"},
		{"{}", "{}"},
		{"clamp(up, 0x1F, 1e3)", "clamp(up, 0x1F, 1e3)"},
	} {
		says(t, c[1], tree.Rows(parsed(t, c[0])))
	}
}

// P15.1: the empty tree has the empty text.
func TestEmptyTree(t *testing.T) {
	if got := show.Show(api.Tree{}); got != "" {
		t.Errorf("Show = %q", got)
	}
}

// P15.1: each kind of node, each operator, by the text that it is known by.
func TestThings(t *testing.T) {
	for _, x := range things() {
		says(t, x.text, x.rows)
	}
}

// P15.1: numbers' and durations' lexemes stand as they stood.
func TestLexemes(t *testing.T) {
	numbers, durations := lexemes()
	for _, s := range slices.Concat(numbers, durations) {
		says(t, s, number(s))
		says(t, "-"+s, unary("-", number(s)))
		says(t, s+"[1h:]", subquery(number(s), "1h", "", api.When{}))
		says(t, s+" ^ "+s, binary("^", number(s), number(s)))
	}
}

// P15.1: strings with quotes, backslashes, line ends, control signs and runes beyond ASCII.
func TestStrings(t *testing.T) {
	for value, want := range map[string]string{
		"":                       `""`,
		"x":                      `"x"`,
		`a"b`:                    `"a\"b"`,
		"a'b`c":                  "\"a'b`c\"",
		`a\b`:                    `"a\\b"`,
		`\"`:                     `"\\\""`,
		"a\nb\r\n":               `"a\nb\r\n"`,
		"\a\b\t\n\v\f\r":         `"\a\b\t\n\v\f\r"`,
		"\x00\x01\x1f\x7f":       `"\x00\x01\x1f\x7f"`,
		"é日\u0080\u2028\ufeff":   "\"é日\u0080\u2028\ufeff\"",
		"\U0010ffff😀":            "\"\U0010ffff😀\"",
		"# no remark, (nor this": `"# no remark, (nor this"`,
	} {
		says(t, want, text(value))
		says(t, "{a="+want+"}", selector("", api.When{}, api.Matcher{Name: "a", Op: 1, Value: value}))
		says(t, "f("+want+", "+want+")", call("f", text(value), text(value)))
	}
	for _, value := range values() {
		agree(t, text(value))
		agree(t, selector("up", api.When{}, api.Matcher{Name: "a", Op: 4, Value: value}))
	}
}

// P15.1: selectors with and without a name, with and without matchers, with each operator.
func TestSelectors(t *testing.T) {
	a, b := api.Matcher{Name: "a", Op: 1, Value: "x"}, api.Matcher{Name: "b", Op: 3, Value: "y.*"}
	says(t, "{}", plainly(""))
	says(t, "up", plainly("up"))
	says(t, "a:b", plainly("a:b"))
	says(t, `{a="x"}`, selector("", api.When{}, a))
	says(t, `up{a="x"}`, selector("up", api.When{}, a))
	says(t, `up{b=~"y.*",a="x",a="x"}`, selector("up", api.When{}, b, a, a))
	for op, sign := range []string{1: "=", 2: "!=", 3: "=~", 4: "!~"} {
		if op > 0 {
			m := api.Matcher{Name: "by", Op: op, Value: "z"}
			says(t, "{by"+sign+`"z"}`, selector("", api.When{}, m))
			says(t, "up{by"+sign+`"z",a="x",by`+sign+`"z"}`, selector("up", api.When{}, m, a, m))
		}
	}
	for _, name := range append(metrics(), "") {
		agree(t, plainly(name))
		agree(t, window("5m", plainly(name)))
		agree(t, binary("or", plainly(name), plainly(name)))
		for _, label := range labels() {
			agree(t, selector(name, api.When{At: "1"}, api.Matcher{Name: label, Op: 2, Value: label}, a))
		}
	}
}

// P15.1: At with a number, with start and with end, Offset beside it or alone, with a minus; of selectors, ranges and subqueries.
func TestWhens(t *testing.T) {
	for want, when := range map[string]api.When{
		"":                     {},
		" @ 7":                 {At: "7"},
		" @ 1e3":               {At: "1e3"},
		" @ inf":               {At: "inf"},
		" @ start()":           {At: "start"},
		" @ end()":             {At: "end"},
		" offset 5m":           {Offset: "5m"},
		" offset -5m":          {Offset: "-5m"},
		" @ 7 offset 1h30m":    {At: "7", Offset: "1h30m"},
		" @ 7 offset -1h30m":   {At: "7", Offset: "-1h30m"},
		" @ start() offset 0s": {At: "start", Offset: "0s"},
		" @ end() offset -0s":  {At: "end", Offset: "-0s"},
	} {
		m := api.Matcher{Name: "a", Op: 2, Value: "x"}
		says(t, "up"+want, selector("up", when))
		says(t, "{}"+want, selector("", when))
		says(t, `up{a!="x"}`+want, selector("up", when, m))
		says(t, "up[5m]"+want, window("5m", selector("up", when)))
		says(t, "{}[5m]"+want, window("5m", selector("", when)))
		says(t, `{a!="x"}[5m]`+want, window("5m", selector("", when, m)))
		says(t, "up[1h:]"+want, subquery(plainly("up"), "1h", "", when))
		says(t, "up"+want+"[1h:5m]"+want, subquery(selector("up", when), "1h", "5m", when))
		says(t, "up[1m]"+want+"[1h:]"+want, subquery(window("1m", selector("up", when)), "1h", "", when))
		says(t, "up[1m:]"+want+"[1h:]"+want, subquery(subquery(plainly("up"), "1m", "", when), "1h", "", when))
	}
	for _, when := range whens() {
		agree(t, selector("up", when))
		agree(t, window("5m", selector("up", when)))
		agree(t, subquery(selector("up", when), "1h", "", when))
	}
}

// P15.1: subqueries with and without Step, of a thing of each level.
func TestSubqueries(t *testing.T) {
	for _, x := range things() {
		inner := x.text
		if x.level < 8 {
			inner = "(" + inner + ")"
		}
		says(t, inner+"[1h:]", subquery(x.rows, "1h", "", api.When{}))
		says(t, inner+"[1h:5m]", subquery(x.rows, "1h", "5m", api.When{}))
		says(t, inner+"[1h:5m] @ end() offset -1d", subquery(x.rows, "1h", "5m", api.When{At: "end", Offset: "-1d"}))
		says(t, inner+"[1h:5m][2h:]", subquery(subquery(x.rows, "1h", "5m", api.When{}), "2h", "", api.When{}))
	}
}

// P15.1: signs over a thing of each level.
func TestSigns(t *testing.T) {
	for _, x := range things() {
		inner := x.text
		if x.level < 6 {
			inner = "(" + inner + ")"
		}
		for _, op := range []string{"+", "-"} {
			says(t, op+inner, unary(op, x.rows))
			says(t, "-"+op+"+"+inner, unary("-", unary(op, unary("+", x.rows))))
		}
	}
}

// P15.1: each operator with a thing of each level at the left and at the right, and at both.
func TestSides(t *testing.T) {
	about := func(x thing, yes bool) string {
		if yes {
			return "(" + x.text + ")"
		}
		return x.text
	}
	c := plainly("c")
	for level, ops := range ranks {
		for _, op := range strings.Fields(ops) {
			if !slices.Contains(operators(), op) {
				continue
			}
			for _, x := range things() {
				left, right := about(x, x.level < level), about(x, x.level <= level)
				if op == "^" {
					left, right = about(x, x.level != 8), about(x, x.level <= 5)
				}
				says(t, left+" "+op+" c", binary(op, x.rows, c))
				says(t, "c "+op+" "+right, binary(op, c, x.rows))
				says(t, left+" "+op+" "+right, binary(op, x.rows, x.rows))
			}
		}
	}
}

// P15.1: bool, on, ignoring, group_left and group_right, alone and together, with no, one and many labels.
func TestBeside(t *testing.T) {
	for want, r := range map[string]api.Row{
		"a + b":                                   {Op: "+"},
		"a == bool b":                             {Op: "==", Bool: true},
		"a + bool b":                              {Op: "+", Bool: true},
		"a and on() b":                            {Op: "and", Matching: api.Matching{Given: true, On: true}},
		"a and ignoring() b":                      {Op: "and", Matching: api.Matching{Given: true}},
		"a or on(x) b":                            {Op: "or", Matching: api.Matching{Given: true, On: true, Labels: []string{"x"}}},
		"a or ignoring(x,x,by) b":                 {Op: "or", Matching: api.Matching{Given: true, Labels: []string{"x", "x", "by"}}},
		"a * on() group_left() b":                 {Op: "*", Matching: api.Matching{Given: true, On: true, Card: api.CardLeft}},
		"a * on() group_right() b":                {Op: "*", Matching: api.Matching{Given: true, On: true, Card: api.CardRight}},
		"a ^ ignoring(x) group_left(y) b":         {Op: "^", Matching: api.Matching{Given: true, Labels: []string{"x"}, Card: api.CardLeft, Include: []string{"y"}}},
		"a < bool on(y,x) group_right(z,inf,z) b": {Op: "<", Bool: true, Matching: api.Matching{Given: true, On: true, Labels: []string{"y", "x"}, Card: api.CardRight, Include: []string{"z", "inf", "z"}}},
	} {
		r.Kind, r.Kids = 7, 2
		says(t, want, slices.Concat([]api.Row{r}, plainly("a"), plainly("b")))
	}
	for _, op := range operators() {
		for _, m := range matchings() {
			for _, x := range []thing{things()[4], {rows: binary("or", plainly("b"), plainly("c"))}, {rows: unary("-", plainly("b"))}} {
				for _, yes := range []bool{false, true} {
					agree(t, slices.Concat([]api.Row{{Kind: 7, Kids: 2, Op: op, Bool: yes, Matching: m}}, x.rows, x.rows))
				}
			}
		}
	}
}

// P15.1: calls with no, one and many arguments, each as it is, whatever its level.
func TestCalls(t *testing.T) {
	for _, name := range functions() {
		says(t, name+"()", call(name))
	}
	var args [][]api.Row
	var texts []string
	for _, x := range things() {
		args, texts = append(args, x.rows), append(texts, x.text)
		says(t, "f("+x.text+")", call("f", x.rows))
		says(t, "f("+strings.Join(texts, ", ")+")", call("f", args...))
	}
}

// P15.1: aggregations with and without Param, by and without, with no, one and many labels.
func TestAggregations(t *testing.T) {
	for _, op := range aggregations() {
		for _, x := range things() {
			one, two := "("+x.text+")", "(c, "+x.text+")"
			other := "(" + x.text + ", c)"
			for _, g := range []struct {
				text    string
				without bool
				labels  []string
			}{
				{"", false, nil},
				{"", false, []string{}},
				{" without() ", true, nil},
				{" by(x) ", false, []string{"x"}},
				{" without(x) ", true, []string{"x"}},
				{" by(y,x,y,by,nan) ", false, []string{"y", "x", "y", "by", "nan"}},
				{" without(y,x,y) ", true, []string{"y", "x", "y"}},
			} {
				says(t, op+g.text+one, aggregate(op, g.without, g.labels, x.rows))
				says(t, op+g.text+two, aggregate(op, g.without, g.labels, plainly("c"), x.rows))
				says(t, op+g.text+other, aggregate(op, g.without, g.labels, x.rows, plainly("c")))
			}
		}
	}
}

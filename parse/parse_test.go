package parse_test

import (
	"fmt"
	"slices"
	"strings"
	"testing"

	"weir/api"
	"weir/parse"
	"weir/tree"
)

// rowText and those below it: trees as told tells them, for those that are written out by hand.
func rowText(r api.Row, kids ...string) string {
	text := fmt.Sprintf("%d<%s", r.Kind, line(r))
	for _, kid := range kids {
		text += " " + kid
	}
	return text + ">"
}

func number(s string) string               { return rowText(api.Row{Kind: 1, Text: s}) }
func text(s string) string                 { return rowText(api.Row{Kind: 2, Text: s}) }
func named(s string) string                { return rowText(api.Row{Kind: 3, Text: s}) }
func sign(op, x string) string             { return rowText(api.Row{Kind: 6, Op: op}, x) }
func two(op, x, y string) string           { return rowText(api.Row{Kind: 7, Op: op}, x, y) }
func call(f string, args ...string) string { return rowText(api.Row{Kind: 8, Op: f}, args...) }

// P13.1: the chapter's examples, their trees written out by hand.
func TestExamples(t *testing.T) {
	for _, c := range []struct{ text, want string }{
		{"1 + 2 * 3", two("+", number("1"), two("*", number("2"), number("3")))},
		{"-2 ^ 2", sign("-", two("^", number("2"), number("2")))},
		{"2 ^ 3 ^ -2", two("^", number("2"), two("^", number("3"), sign("-", number("2"))))},
		{"a == bool on (x) group_left (y, z) b", rowText(api.Row{Kind: 7, Op: "==", Bool: true, Matching: api.Matching{Given: true, On: true, Labels: []string{"x"}, Card: 1, Include: []string{"y", "z"}}}, named("a"), named("b"))},
		{`rate(up{job="a"}[5m] offset -1m)`, call("rate", rowText(api.Row{Kind: 4, Dur: "5m"}, rowText(api.Row{Kind: 3, Text: "up", Matchers: []api.Matcher{{Name: "job", Op: 1, Value: "a"}}, When: api.When{Offset: "-1m"}})))},
		{"max_over_time(sum by (job) (up)[1h:] @ end())", call("max_over_time", rowText(api.Row{Kind: 5, Dur: "1h", When: api.When{At: "end"}}, rowText(api.Row{Kind: 9, Op: "sum", Labels: []string{"job"}}, named("up"))))},
		{"topk(3, up) without (a,)", rowText(api.Row{Kind: 9, Op: "topk", Without: true, Labels: []string{"a"}}, number("3"), named("up"))},
		{`{By="x"}`, rowText(api.Row{Kind: 3, Matchers: []api.Matcher{{Name: "By", Op: 1, Value: "x"}}})},
		{"a - b - c", two("-", two("-", named("a"), named("b")), named("c"))},
		{"a ^ b ^ c", two("^", named("a"), two("^", named("b"), named("c")))},
		{"-a ^ b", sign("-", two("^", named("a"), named("b")))},
		{"a ^ -b", two("^", named("a"), sign("-", named("b")))},
		{"-a * b", two("*", sign("-", named("a")), named("b"))},
		{"a ^ -b ^ c * d", two("*", two("^", named("a"), sign("-", two("^", named("b"), named("c")))), named("d"))},
		{"((5m))", number("5m")},
		{"f()", call("f")},
		{"f('x', 1)", call("f", text("x"), number("1"))},
		{"a ANd b", two("and", named("a"), named("b"))},
	} {
		if got := parsed(c.text); got != (answer{c.want, 0, api.OK}) {
			t.Errorf("%q: %+v", c.text, got)
		}
		agree(t, c.text)
	}
}

// P13.1: the chapter's refused examples, and the edges of each error.
func TestRefused(t *testing.T) {
	for _, c := range []struct {
		text  string
		place int
		e     api.Errno
	}{
		{"(up) offset 5m", 5, api.ErrModifier},
		{"up offset 5m [5m]", 16, api.ErrModifier},
		{"1 +", 3, api.ErrEnd},
		{"1 + * 2", 4, api.ErrSyntax},
		{"sum(a, b, c)", 8, api.ErrSyntax},
		{"a * on (x) group_left (b + c)", 25, api.ErrSyntax},
		{"", 0, api.ErrEnd},
		{" \n# up", 6, api.ErrEnd},
		{"1 + # 2", 7, api.ErrEnd},
		{"sum", 3, api.ErrEnd},
		{"sum by", 6, api.ErrEnd},
		{"sum by (a)", 10, api.ErrEnd},
		{"sum by (a) b", 11, api.ErrSyntax},
		{"sum (a) by (b) by (c)", 15, api.ErrSyntax},
		{"sum by (b) (a) by (c)", 15, api.ErrSyntax},
		{"sum{}", 3, api.ErrSyntax},
		{"f(a,)", 4, api.ErrSyntax},
		{"f(,a)", 2, api.ErrSyntax},
		{"sum(a,)", 6, api.ErrSyntax},
		{"by(a)", 0, api.ErrSyntax},
		{"a:b(c)", 3, api.ErrSyntax},
		{"inf(c)", 3, api.ErrSyntax},
		{"a group_left b", 2, api.ErrSyntax},
		{"a * group_left b", 4, api.ErrSyntax},
		{"a * on b", 7, api.ErrSyntax},
		{"a * on (x) bool b", 11, api.ErrSyntax},
		{"a * bool bool b", 9, api.ErrSyntax},
		{"a * on (x) ignoring (y) b", 11, api.ErrSyntax},
		{"a * on (x) group_left group_left b", 22, api.ErrSyntax},
		{"a * on (,) b", 8, api.ErrSyntax},
		{"a * on (x y) b", 10, api.ErrSyntax},
		{"a * on (1) b", 8, api.ErrSyntax},
		{"a * on (5m) b", 8, api.ErrSyntax},
		{"a * on ('x') b", 8, api.ErrSyntax},
		{"a * on (x:y) b", 8, api.ErrSyntax},
		{"a * on (x) group_left (y)", 25, api.ErrEnd},
		{"{a}", 2, api.ErrSyntax},
		{"{a=1}", 3, api.ErrSyntax},
		{"{a==\"x\"}", 2, api.ErrSyntax},
		{"{a=\"x\",,}", 7, api.ErrSyntax},
		{"{a=\"x\" b=\"y\"}", 7, api.ErrSyntax},
		{"{'a'=\"x\"}", 1, api.ErrSyntax},
		{"{}{}", 2, api.ErrSyntax},
		{"up{}up", 4, api.ErrSyntax},
		{"up[5]", 3, api.ErrSyntax},
		{"up[]", 3, api.ErrSyntax},
		{"up[5m 1m]", 6, api.ErrSyntax},
		{"up[5m:1m:1m]", 8, api.ErrSyntax},
		{"up[5m:1]", 6, api.ErrSyntax},
		{"up[:5m]", 3, api.ErrSyntax},
		{"up[-5m]", 3, api.ErrSyntax},
		{"up[5m", 5, api.ErrEnd},
		{"up offset", 9, api.ErrEnd},
		{"up offset -", 11, api.ErrEnd},
		{"up offset + 5m", 10, api.ErrSyntax},
		{"up offset - - 5m", 12, api.ErrSyntax},
		{"up offset 5", 10, api.ErrSyntax},
		{"up @", 4, api.ErrEnd},
		{"up @ -1", 5, api.ErrSyntax},
		{"up @ 5m", 5, api.ErrSyntax},
		{"up @ 'start'", 5, api.ErrSyntax},
		{"up @ start", 10, api.ErrEnd},
		{"up @ start(", 11, api.ErrEnd},
		{"up @ start + 1", 11, api.ErrSyntax},
		{"up @ start(1)", 11, api.ErrSyntax},
		{"up @ Start()", 5, api.ErrSyntax},
		{"up @ END()", 5, api.ErrSyntax},
		{"up @ sum()", 5, api.ErrSyntax},
		{"offset 5m", 0, api.ErrSyntax},
		{"@ 5", 0, api.ErrSyntax},
		{"[5m]", 0, api.ErrSyntax},
		{"1 offset 5m", 2, api.ErrModifier},
		{"5m offset 5m", 3, api.ErrModifier},
		{"'x' @ 5", 4, api.ErrModifier},
		{"f(x) offset 5m", 5, api.ErrModifier},
		{"sum(x) @ 5", 7, api.ErrModifier},
		{"sum(x) by (y) offset 5m", 14, api.ErrModifier},
		{"sum(x)[5m]", 9, api.ErrModifier},
		{"1[5m]", 4, api.ErrModifier},
		{"(up)[5m]", 7, api.ErrModifier},
		{"up[5m][5m]", 9, api.ErrModifier},
		{"up[5m:][5m]", 10, api.ErrModifier},
		{"up @ 5[5m]", 9, api.ErrModifier},
		{"(up[5m]) offset 5m", 9, api.ErrModifier},
		{"(up[5m:]) @ 5", 10, api.ErrModifier},
		{"up offset 5m offset 5m", 13, api.ErrModifier},
		{"up offset -5m @ 5 offset 5m", 18, api.ErrModifier},
		{"up[5m] offset 5m offset 5m", 17, api.ErrModifier},
		{"up[5m] @ 5 @ 5", 11, api.ErrModifier},
		{"up[5m:] @ end() @ end()", 16, api.ErrModifier},
		{"up[5m:] offset 1m @ 1 offset 1m", 22, api.ErrModifier},
		{"-up offset 5m + (up) offset", 21, api.ErrModifier},
		{"(up) @ )", 5, api.ErrModifier},
		{"1 1 $", 4, api.ErrChar},
		{"1 1 5mm", 4, api.ErrLexeme},
		{"1 1 'x", 4, api.ErrLiteral},
		{") !", 2, api.ErrChar},
	} {
		if got := parsed(c.text); got != (answer{"none", c.place, c.e}) {
			t.Errorf("%q: %+v", c.text, got)
		}
		agree(t, c.text)
	}
}

// P13.1: each beginning of the samples, alone and with each token behind it: each rule of the grammar broken at each of its tokens.
func TestBeginnings(t *testing.T) {
	counts := map[api.Errno]int{}
	for _, s := range samples() {
		built(t, s)
		toks := cut(s)
		for n := range len(toks) + 1 {
			begin := strings.Join(toks[:n], " ")
			got, _ := agree(t, begin)
			counts[got.e]++
			for _, tok := range vocabulary() {
				got, _ := agree(t, begin+" "+tok)
				counts[got.e]++
			}
		}
	}
	for e, least := range map[api.Errno]int{api.OK: 500, api.ErrEnd: 2000, api.ErrSyntax: 8000, api.ErrModifier: 100} {
		if counts[e] < least {
			t.Errorf("error %d: %d times", e, counts[e])
		}
	}
}

// P13.1: all texts of at most three tokens.
func TestFewTokens(t *testing.T) {
	words := vocabulary()
	taken := 0
	for _, a := range words {
		agree(t, a)
		for _, b := range words {
			agree(t, a+" "+b)
			for _, c := range words {
				if got, _ := agree(t, a+" "+b+" "+c); got.e == api.OK {
					taken++
				}
			}
		}
	}
	if taken < 300 {
		t.Errorf("%d taken", taken)
	}
}

// P13.1: queries by chance, as they are, spoiled, cut off, and with modifiers put in.
func TestByChance(t *testing.T) {
	w := newWriter(1)
	counts := map[api.Errno]int{}
	for range 9000 {
		got, _ := agree(t, w.text(60))
		counts[got.e]++
	}
	for e, least := range map[api.Errno]int{api.OK: 2500, api.ErrEnd: 400, api.ErrSyntax: 1200, api.ErrModifier: 400} {
		if counts[e] < least {
			t.Errorf("error %d: %d times", e, counts[e])
		}
	}
}

// P13.1: what has been read is a tree as layer 12 has it, and its rows are the chapter's.
func TestRows(t *testing.T) {
	w := newWriter(2)
	taken := 0
	for range 1500 {
		s := w.text(50)
		if x, _, e := parse.Parse(s); e == api.OK {
			taken++
			rows, _ := nested(tree.Rows(x))
			if want := wanted("query", s); rows != want.told || !tree.Same(x, built(t, s)) {
				t.Fatalf("%q: %s, not %s", s, rows, want.told)
			}
		}
	}
	if taken < 400 {
		t.Errorf("%d taken", taken)
	}
}

// P13.1: keywords in any case; as labels' names they keep it, and no keyword is a function or a metric.
func TestKeywords(t *testing.T) {
	keywords := strings.Fields("and bool by group_left group_right ignoring offset on or unless without " + aggregations)
	if len(keywords) != 23 {
		t.Fatal(len(keywords))
	}
	for _, small := range keywords {
		for _, word := range broad(small) {
			for _, form := range []string{"%s", "%s(a)", "%s{}", "1 + %s", "a %s b", "a * %s (x) b", "a * on (x) %s (y) b", "a * on (x) %s b", "a == %s b", "sum %s (x) (a)", "sum(a) %s (x)", "%s by (x) (a)", "%s(1, a)", "%s(1, a, b)",
				"a %s 5m", "{%s='x'}", "sum by (%s) (a)", "sum by (x, %s,) (a)", "a / on (%s) b", "a @ %s()", "f(%s)", "%sx", "%sx(1)", "%s:", "'%s'", "a '%s' b"} {
				agree(t, fmt.Sprintf(form, word))
			}
		}
	}
}

// P13.1: strings in each of the language's quotes and escapes, as values and in matchers.
func TestStrings(t *testing.T) {
	for _, c := range []struct{ lit, want string }{
		{`"x"`, "x"}, {`'x'`, "x"}, {"`x`", "x"}, {`""`, ""}, {`"\a\b\f\n\r\t\v\\\""`, "\a\b\f\n\r\t\v\\\""}, {`'\''`, "'"}, {"`\\n`", `\n`}, {`"\x41\101\u00e9\U0001F600"`, "AAé\U0001F600"}, {"`a\nb`", "a\nb"}, {`"# ) }"`, "# ) }"}, {`"\303\251"`, "é"},
	} {
		if got := parsed(c.lit); got != (answer{text(c.want), 0, api.OK}) {
			t.Errorf("%s: %+v", c.lit, got)
		}
		want := rowText(api.Row{Kind: 3, Text: "up", Matchers: []api.Matcher{{Name: "a", Op: 3, Value: c.want}}})
		for _, got := range []answer{parsed("up{a=~" + c.lit + "}"), picked("up{a=~" + c.lit + "}")} {
			if got != (answer{want, 0, api.OK}) {
				t.Errorf("%s in a matcher: %+v", c.lit, got)
			}
		}
	}
}

// P13.1: modifiers in any order, each once and twice, behind all sorts of things.
func TestModifiers(t *testing.T) {
	things := []string{"up", "up{a='b'}", "{}", "(up)", "1", "5m", "'x'", "f(up)", "sum(up)", "sum(up) by (a)", "(up[5m])", "(up[5m:])", "-up", "1 ^ up", "up + up", "f(1, up", "start", "a:b"}
	mods := []string{"", "[5m]", "[5m:]", "[5m:1m]", "offset 5m", "offset -5m", "@ 1", "@ start()", "@ end()", "@ Inf"}
	counts := map[api.Errno]int{}
	for _, x := range things {
		for _, a := range mods {
			for _, b := range mods {
				for _, c := range mods {
					got, _ := agree(t, strings.Join([]string{x, a, b, c}, " "))
					counts[got.e]++
				}
			}
		}
	}
	if counts[api.OK] < 1000 || counts[api.ErrModifier] < 5000 || counts[api.ErrSyntax] > 0 {
		t.Errorf("errors %v", counts)
	}
}

// P13.1: aggregations with the grouping ahead, behind, in both places and not at all, with no argument up to three.
func TestAggregates(t *testing.T) {
	taken := 0
	groups := []string{"", "by (a)", "without (a, b)", "BY ()", "Without (c,)", "by (,)", "by"}
	for _, op := range broad("aggr") {
		for _, ahead := range groups {
			for _, behind := range groups {
				for _, args := range []string{"()", "(x)", "(1, x)", "(1, 2, x)", "(x,)", "(,x)", "x", "((x))", ""} {
					if got, _ := agree(t, strings.Join([]string{op, ahead, args, behind}, " ")); got.e == api.OK {
						taken++
					}
				}
			}
		}
	}
	if taken != 15*9*3 {
		t.Errorf("%d taken", taken)
	}
}

// P13.1: what stands between an operator and its right side, of each operator.
func TestMods(t *testing.T) {
	taken := 0
	for _, op := range operators() {
		for _, is := range []string{"", "bool"} {
			for _, match := range []string{"", "on", "on ()", "ignoring (x)", "ON (x, on,)", "Ignoring (inf, x, x)"} {
				for _, group := range []string{"", "group_left", "group_right", "Group_Left ()", "group_right (y)", "group_left (y, y,)"} {
					for _, right := range []string{"b", "(b)", "-b", "(b) + (c)", ""} {
						if got, _ := agree(t, strings.Join([]string{"a", op, is, match, group, right}, " ")); got.e == api.OK {
							taken++
						}
					}
				}
			}
		}
	}
	if taken < 1000 {
		t.Errorf("%d taken", taken)
	}
}

func operators() []string {
	return []string{"or", "and", "unless", "==", "!=", "<", ">", "<=", ">=", "+", "-", "*", "/", "%", "^"}
}

// signed: things with signs ahead of them.
func signed(x string) []string {
	return []string{x, "-" + x, "+ -" + x}
}

// P13.1: each two operators with signs at each of the three things.
func TestSigns(t *testing.T) {
	for _, one := range operators() {
		for _, other := range operators() {
			for _, a := range signed("1") {
				for _, b := range signed("2") {
					for _, c := range signed("3") {
						if got, _ := agree(t, strings.Join([]string{a, one, b, other, c}, " ")); got.e != api.OK {
							t.Fatalf("%+v", got)
						}
					}
				}
			}
		}
	}
}

// P13.2: texts that are a selector, and what Parse takes that isn't one.
func TestSelector(t *testing.T) {
	up := api.Row{Kind: 3, Text: "up"}
	asked := api.Row{Kind: 3, Text: "a:b", Matchers: []api.Matcher{{Name: "x", Op: 1, Value: "1"}, {Name: "by", Op: 2, Value: ""}, {Name: "y", Op: 3, Value: "("}, {Name: "x", Op: 4, Value: "1"}}}
	for _, c := range []struct {
		text string
		want api.Row
	}{{"up", up}, {" up # x", up}, {"up{}", up}, {"{}", api.Row{Kind: 3}}, {"start", api.Row{Kind: 3, Text: "start"}}, {`a:b{x="1",by!='',y=~"(",x!~"1",}`, asked}} {
		if got := picked(c.text); got != (answer{rowText(c.want), 0, api.OK}) || got != parsed(c.text) {
			t.Errorf("%q: %+v", c.text, got)
		}
	}
	for _, c := range []struct {
		text  string
		place int
		e     api.Errno
	}{
		{"", 0, api.ErrEnd}, {" # up", 5, api.ErrEnd}, {"(up)", 0, api.ErrSyntax}, {"up[5m]", 2, api.ErrSyntax}, {"up offset 5m", 3, api.ErrSyntax}, {"up @ 1", 3, api.ErrSyntax}, {"rate(x)", 4, api.ErrSyntax}, {"1", 0, api.ErrSyntax},
		{"5m", 0, api.ErrSyntax}, {"'x'", 0, api.ErrSyntax}, {"-up", 0, api.ErrSyntax}, {"up + up", 3, api.ErrSyntax}, {"sum", 0, api.ErrSyntax}, {"by", 0, api.ErrSyntax}, {"inf", 0, api.ErrSyntax}, {"up{", 3, api.ErrEnd}, {"up{a", 4, api.ErrEnd},
		{"up{a=", 5, api.ErrEnd}, {"up{a='x'", 8, api.ErrEnd}, {"up{a='x',", 9, api.ErrEnd}, {"up{,}", 3, api.ErrSyntax}, {"up{} up", 5, api.ErrSyntax}, {"up up $", 6, api.ErrChar}, {"up{a='x}", 5, api.ErrLiteral}, {"up up 5mm", 6, api.ErrLexeme},
	} {
		if got := picked(c.text); got != (answer{"none", c.place, c.e}) {
			t.Errorf("%q: %+v", c.text, got)
		}
	}
}

// P13.2: a text that Selector takes, Parse takes too, with the same tree; and each that is a selector's alone is taken.
func TestSelectorsByChance(t *testing.T) {
	w := newWriter(3)
	taken, other := 0, 0
	for range 4000 {
		w.left = 60
		query, selector := agree(t, w.spread(w.spoiled(append(w.rule("selector", 30), slices.Repeat([]string{","}, w.dice.IntN(2))...))))
		if selector.e == api.OK {
			taken++
			if query != selector {
				t.Fatalf("%+v, and by Parse %+v", selector, query)
			}
		}
		if selector.e != query.e {
			other++
		}
	}
	if taken < 300 || other < 100 {
		t.Errorf("%d taken, %d by Parse alone", taken, other)
	}
}

package check_test

import (
	"slices"
	"strings"
	"testing"

	"weir/api"
	"weir/check"
)

// P14.2: the chapter's examples.
func TestExamples(t *testing.T) {
	for text, kind := range map[string]int{
		"up": api.ValVector, "up[5m]": api.ValMatrix, "1": api.ValScalar, `"x"`: api.ValString, "(1 + up)[5m:]": api.ValMatrix,
		`{a!=""}`: api.ValVector, `{a=~".+"}`: api.ValVector, `up{__name__=~"x"}`: api.ValVector,
		"1 == bool 2": api.ValScalar, "up * ignoring(a) group_left(a) up": api.ValVector,
		"rate(up[5m])": api.ValVector, "round(up)": api.ValVector, "round(up, 5)": api.ValVector, "hour()": api.ValVector, "time()": api.ValScalar, `label_join(up, "a", "-")`: api.ValVector,
		"sum(up)": api.ValVector,
	} {
		answers(t, text, kind, api.OK)
	}
	for text, e := range map[string]api.Errno{
		"-up[5m]": api.ErrType, `-"x"`: api.ErrType, "up[0s]": api.ErrWidth, "1[5m:1m]": api.ErrType, "up[5m:0s]": api.ErrWidth,
		"{}": api.ErrBare, `{a=""}`: api.ErrBare, `{a!="x"}`: api.ErrBare, `{a=~".*"}`: api.ErrBare, `{a=~"("}`: api.ErrRegex, `up{__name__="x"}`: api.ErrNameTwo, `{a=~"(", b=~"x"}`: api.ErrRegex,
		"1 == 2": api.ErrBool, "up + bool 2": api.ErrBool, "1 and 2": api.ErrType, "1 + on(a) up": api.ErrGrouping, "up and on(a) group_left() up": api.ErrGrouping, "up * on(a) group_left(a) up": api.ErrGrouping,
		"rate(up)": api.ErrType, "rate()": api.ErrArity, "Rate(up[5m])": api.ErrFunction, "round(up, 5, 5)": api.ErrArity,
		`label_replace(up, "1", "", "b", "")`: api.ErrGrouping, `label_replace(up, "a", "", "b", "(")`: api.ErrRegex,
		"sum(1)": api.ErrType, "sum(2, up)": api.ErrArity, "topk(up)": api.ErrArity, `topk("x", up)`: api.ErrType, `count_values("a-b", up)`: api.ErrGrouping, "up @ 1e300": api.ErrTime,
	} {
		answers(t, text, 0, e)
	}
	if kind, e := check.Check(api.Tree{}); kind != 0 || e != api.ErrArg {
		t.Errorf("the empty tree: %d, %d", kind, e)
	}
}

// P14.2: numbers of all sorts are scalars, durations too; texts are strings.
func TestLeaves(t *testing.T) {
	for _, s := range []string{"0", "1.5", "0x1F", "1e300", ".5", "inf", "NaN", "5m", "0s", "10000y"} {
		answers(t, s, api.ValScalar, api.OK)
	}
	for _, s := range []string{`""`, `"x"`, `"("`, "'é'", "'__name__'", "'1'"} {
		answers(t, s, api.ValString, api.OK)
	}
}

// P14.2: a selector's name and its matchers of the label __name__, with each operator.
func TestNameTwo(t *testing.T) {
	for _, c := range []struct {
		text string
		e    api.Errno
	}{
		{`up{__name__="up"}`, api.ErrNameTwo},
		{`up{__name__=""}`, api.ErrNameTwo},
		{`up{__name__!="up"}`, api.OK},
		{`up{__name__=~"up"}`, api.OK},
		{`up{__name__!~"up"}`, api.OK},
		{`up{a="x",__name__="up"}`, api.ErrNameTwo},
		{`up{__name__="up",a="x"}`, api.ErrNameTwo},
		{`up{__name__=~"x",__name__="up"}`, api.ErrNameTwo},
		{`up{a="__name__"}`, api.OK},
		{`up{__name="up"}`, api.OK},
		{`up{__NAME__="up"}`, api.OK},
		{`{__name__="up"}`, api.OK},
		{`{__name__="up",__name__="x"}`, api.OK},
		{`{__name__=""}`, api.ErrBare},
		{`{__name__!="up"}`, api.ErrBare},
		{`{__name__=~"up"}`, api.OK},
		{`{__name__!~"up"}`, api.ErrBare},
		{`{__name__!~""}`, api.OK},
		{`up{__name__="up"}[5m]`, api.ErrNameTwo},
		{`up`, api.OK},
		{`a:b{}`, api.OK},
	} {
		_, e := check.Check(parsed(t, c.text))
		if e != c.e {
			t.Errorf("Check(%s): %d, want %d", c.text, e, c.e)
		}
	}
}

// P14.2: which matchers hold of the empty text, alone, together and beside one that doesn't; a name makes up for them all.
func TestBare(t *testing.T) {
	hold := []string{`a=""`, `a!="x"`, `a!="("`, `a!=" "`, `a=~""`, `a=~".*"`, `a=~"x|"`, `a=~"x?"`, `a=~"^$"`, `a=~"\\B"`, `a=~"(?:a?){1000}"`, `a!~"x"`, `a!~".+"`, `a!~"\\b"`, `__name__=""`, `__name__!~"x"`}
	not := []string{`b="x"`, `b=" "`, `b="("`, `b!=""`, `b=~"x"`, `b=~".+"`, `b=~"\\b"`, `b=~"(?:a{1000}){9}"`, `b!~""`, `b!~".*"`, `b!~"x?"`, `b!~"^"`, `__name__="x"`, `__name__!=""`}
	answers(t, "{}", 0, api.ErrBare)
	for _, one := range hold {
		answers(t, "{"+one+"}", 0, api.ErrBare)
		answers(t, "{"+one+"}[5m]", 0, api.ErrBare)
		if !strings.HasPrefix(one, `__name__=`) {
			answers(t, "up{"+one+"}", api.ValVector, api.OK)
		}
		for _, other := range hold {
			answers(t, "{"+one+","+other+"}", 0, api.ErrBare)
		}
		for _, other := range not {
			answers(t, "{"+one+","+other+"}", api.ValVector, api.OK)
			answers(t, "{"+other+","+one+","+one+"}", api.ValVector, api.OK)
		}
	}
	for _, one := range not {
		answers(t, "{"+one+"}", api.ValVector, api.OK)
		answers(t, "{"+one+"}[5m]", api.ValMatrix, api.OK)
	}
	answers(t, "{"+strings.Join(hold, ",")+"}", 0, api.ErrBare)
	answers(t, "{"+strings.Join(append(hold, not[0]), ",")+"}", api.ValVector, api.OK)
}

// P14.2: patterns that aren't taken, wherever they stand; with = and != they are texts like others.
func TestRegex(t *testing.T) {
	refused := 0
	for _, p := range patterns() {
		for _, name := range []string{"", "up"} {
			for op := 1; op <= 4; op++ {
				m := api.Matcher{Name: "a", Op: op, Value: p}
				b := api.Matcher{Name: "b", Op: 1, Value: "x"}
				for _, ms := range [][]api.Matcher{{m}, {m, b}, {b, m}, {b, m, b}} {
					_, e := agree(t, []api.Row{{Kind: 3, Text: name, Matchers: ms}})
					if bad := op >= 3 && !compiles(p); bad != (e == api.ErrRegex) {
						t.Errorf("%.20q with operator %d: %d", p, op, e)
					}
					if e == api.ErrRegex {
						refused++
					}
				}
			}
		}
	}
	if refused < 9*2*2*4 {
		t.Errorf("%d are refused", refused)
	}
}

// someMatchers: matchers of two names with each operator, and values that are texts, patterns and none.
func someMatchers() []api.Matcher {
	var list []api.Matcher
	for _, name := range []string{"a", "__name__"} {
		for op := 1; op <= 4; op++ {
			for _, value := range []string{"", "x", "x?", "("} {
				list = append(list, api.Matcher{Name: name, Op: op, Value: value})
			}
		}
	}
	return list
}

// P14.2: selectors with up to two matchers of all sorts, and when they are asked; each as a range too.
func TestSelectors(t *testing.T) {
	lists := [][]api.Matcher{nil}
	for _, a := range someMatchers() {
		lists = append(lists, []api.Matcher{a})
		for _, b := range someMatchers() {
			lists = append(lists, []api.Matcher{a, b})
		}
	}
	counts := map[api.Errno]int{}
	for _, ms := range lists {
		for _, name := range []string{"", "up"} {
			for _, w := range []api.When{{}, {Offset: "-0s", At: "5"}, {At: "1e300"}} {
				r := api.Row{Kind: 3, Text: name, Matchers: ms, When: w}
				_, e := agree(t, []api.Row{r})
				counts[e]++
				for _, dur := range []string{"5m", "0s"} {
					agree(t, []api.Row{{Kind: 4, Kids: 1, Dur: dur}, r})
				}
			}
		}
	}
	for e, least := range map[api.Errno]int{api.OK: 1000, api.ErrNameTwo: 500, api.ErrRegex: 1000, api.ErrBare: 300, api.ErrTime: 500} {
		if counts[e] < least {
			t.Errorf("error %d: %d times", e, counts[e])
		}
	}
}

// P14.2: each When, of a selector, of a range's selector and of a subquery.
func TestWhen(t *testing.T) {
	far, fine := 0, 0
	for _, w := range whens() {
		up := api.Row{Kind: 3, Text: "up", When: w}
		for _, rows := range [][]api.Row{{up}, {{Kind: 4, Kids: 1, Dur: "5m"}, up}, {{Kind: 5, Kids: 1, Dur: "5m", When: w}, {Kind: 3, Text: "up"}}, {{Kind: 5, Kids: 1, Dur: "5m", Step: "1m", When: w}, {Kind: 3, Text: "up"}}} {
			if _, e := agree(t, rows); e == api.ErrTime {
				far++
			} else if e == api.OK {
				fine++
			}
		}
	}
	if far < 100 || fine < 100 {
		t.Errorf("%d are too far, %d fine", far, fine)
	}
	for text, e := range map[string]api.Errno{
		"up @ 253402300799.999": api.OK, "up @ 253402300799.9994": api.OK, "up @ 253402300800": api.ErrTime, "up @ 0": api.OK, "up @ start()": api.OK, "up @ end()": api.OK,
		"up @ inf": api.ErrTime, "up @ NaN": api.ErrTime, "up offset 0s": api.OK, "up offset -0s": api.OK, "up offset -10000y": api.OK, "up[5m] @ 1e300": api.ErrTime, "up[5m:] @ 1e300": api.ErrTime, "up[5m:] offset 0s @ 1": api.OK,
	} {
		if _, got := check.Check(parsed(t, text)); got != e {
			t.Errorf("Check(%s): %d, want %d", text, got, e)
		}
	}
}

// P14.2: widths and steps of 0 ms, written in all ways, and those that aren't.
func TestWidths(t *testing.T) {
	empty, full := durations()
	for _, dur := range slices.Concat(empty, full) {
		_, e := agree(t, []api.Row{{Kind: 4, Kids: 1, Dur: dur}, {Kind: 3, Text: "up"}})
		if want := slices.Contains(empty, dur); want != (e == api.ErrWidth) || !want && e != api.OK {
			t.Errorf("up[%s]: %d", dur, e)
		}
		for _, step := range slices.Concat([]string{""}, empty, full) {
			kind, e := agree(t, []api.Row{{Kind: 5, Kids: 1, Dur: dur, Step: step}, {Kind: 3, Text: "up"}})
			want := slices.Contains(empty, dur) || slices.Contains(empty, step)
			if want != (e == api.ErrWidth) || !want && (e != api.OK || kind != api.ValMatrix) {
				t.Errorf("up[%s:%s]: %d, %d", dur, step, kind, e)
			}
		}
	}
}

// P14.2: subqueries of each type, with all that may be wrong in one.
func TestSubqueries(t *testing.T) {
	for _, types := range typeLists(1) {
		for _, dur := range []string{"5m", "0s"} {
			for _, step := range []string{"", "1m", "0ms"} {
				for _, at := range []string{"", "1", "inf"} {
					agree(t, over(api.Row{Kind: 5, Dur: dur, Step: step, When: api.When{At: at}}, types))
				}
			}
		}
	}
	answers(t, "up[5m:]", api.ValMatrix, api.OK)
	answers(t, "1[5m:]", 0, api.ErrType)
	answers(t, "'x'[5m:]", 0, api.ErrType)
	answers(t, "up[5m][5m:]", 0, api.ErrType)
	answers(t, "up[5m:][5m:]", 0, api.ErrType)
}

// P14.2: each sign over each type.
func TestSigns(t *testing.T) {
	for _, op := range []string{"+", "-"} {
		for types, want := range map[string]int{"s": api.ValScalar, "v": api.ValVector, "t": 0, "m": 0} {
			kind, e := agree(t, over(api.Row{Kind: 6, Op: op}, types))
			if kind != want || (e == api.ErrType) != (want == 0) {
				t.Errorf("%s over %s: %d, %d", op, types, kind, e)
			}
		}
	}
	answers(t, "-+-1", api.ValScalar, api.OK)
	answers(t, "-+-up", api.ValVector, api.OK)
	answers(t, "-+-'x'", 0, api.ErrType)
}

// P14.2: each operator between each two types, with and without bool, with each Matching.
func TestOperators(t *testing.T) {
	counts := map[api.Errno]int{}
	for _, op := range operators() {
		for _, types := range typeLists(2) {
			for _, with := range []bool{false, true} {
				for _, m := range matchings() {
					kind, e := agree(t, over(api.Row{Kind: 7, Op: op, Bool: with, Matching: m}, types))
					counts[e]++
					if e == api.OK && (kind == api.ValScalar) != (types == "ss") {
						t.Fatalf("%s between %s: %d", op, types, kind)
					}
				}
			}
		}
	}
	for e, least := range map[api.Errno]int{api.OK: 2000, api.ErrType: 30000, api.ErrBool: 5000, api.ErrGrouping: 3000} {
		if counts[e] < least {
			t.Errorf("error %d: %d times", e, counts[e])
		}
	}
}

// P14.2: operators by hand: who may have bool, who must, and which matching may stand where.
func TestOperatorsByHand(t *testing.T) {
	for _, op := range strings.Fields("== != < <= > >=") {
		answers(t, "1 "+op+" 2", 0, api.ErrBool)
		answers(t, "1 "+op+" bool 2", api.ValScalar, api.OK)
		answers(t, "up "+op+" 2", api.ValVector, api.OK)
		answers(t, "1 "+op+" bool up", api.ValVector, api.OK)
		answers(t, "up "+op+" up", api.ValVector, api.OK)
		answers(t, "up "+op+" bool on (a) up", api.ValVector, api.OK)
		answers(t, "up "+op+" ignoring () 1", 0, api.ErrGrouping)
	}
	for _, op := range strings.Fields("+ - * / % ^") {
		answers(t, "1 "+op+" 2", api.ValScalar, api.OK)
		answers(t, "1 "+op+" bool 2", 0, api.ErrBool)
		answers(t, "up "+op+" bool up", 0, api.ErrBool)
		answers(t, "1 "+op+" up", api.ValVector, api.OK)
		answers(t, "up "+op+" 1", api.ValVector, api.OK)
		answers(t, "1 "+op+" on () 2", 0, api.ErrGrouping)
		answers(t, "1 "+op+" ignoring () up", 0, api.ErrGrouping)
		answers(t, "up "+op+" ignoring (a) group_right () 1", 0, api.ErrGrouping)
		answers(t, "up "+op+" on (a, b) group_right (c, a) up", 0, api.ErrGrouping)
		answers(t, "up "+op+" on (a, b) group_left (c, b) up", 0, api.ErrGrouping)
		answers(t, "up "+op+" on (a, b) group_left (c, d) up", api.ValVector, api.OK)
		answers(t, "up "+op+" ignoring (a, b) group_left (b, a) up", api.ValVector, api.OK)
		answers(t, "up "+op+" on (a, a) group_left (A, c, c) up", api.ValVector, api.OK)
	}
	for _, op := range strings.Fields("and or unless") {
		answers(t, "up "+op+" up", api.ValVector, api.OK)
		answers(t, "up "+op+" on () up", api.ValVector, api.OK)
		answers(t, "up "+op+" ignoring (a) up", api.ValVector, api.OK)
		answers(t, "up "+op+" bool up", 0, api.ErrBool)
		answers(t, "1 "+op+" up", 0, api.ErrType)
		answers(t, "up "+op+" 1", 0, api.ErrType)
		answers(t, "up "+op+" on (a) group_left () up", 0, api.ErrGrouping)
		answers(t, "up "+op+" ignoring (a) group_right () up", 0, api.ErrGrouping)
		answers(t, "up "+op+" on () group_right (x) up", 0, api.ErrGrouping)
	}
}

// P14.2: each field of a Matching, set alone, where a scalar stands. Of trees made otherwise than by hand Given is always set too; the chapter names each field.
func TestMatchingFieldByField(t *testing.T) {
	for _, m := range []api.Matching{{Given: true}, {On: true}, {Labels: []string{"a"}}, {Card: api.CardLeft}, {Card: api.CardRight}, {Include: []string{"a"}}} {
		for _, types := range []string{"sv", "vs", "ss"} {
			x := built(t, over(api.Row{Kind: 7, Op: "+"}, types))
			x.Root.(*api.Binary).Matching = m
			if kind, e := check.Check(x); kind != 0 || e != api.ErrGrouping {
				t.Errorf("%+v between %s: %d, %d", m, types, kind, e)
			}
		}
	}
	x := built(t, over(api.Row{Kind: 7, Op: "+"}, "sv"))
	x.Root.(*api.Binary).Matching = api.Matching{Labels: []string{}, Include: []string{}}
	if kind, e := check.Check(x); kind != api.ValVector || e != api.OK {
		t.Errorf("empty lists: %d, %d", kind, e)
	}
}

// P14.2: each function with each list of up to five arguments of the four types.
func TestCalls(t *testing.T) {
	var lists []string
	for n := range 6 {
		lists = append(lists, typeLists(n)...)
	}
	for name, k := range functions() {
		right := 0
		for _, types := range lists {
			if len(types) == 5 && name != "label_replace" && name != "label_join" && types[1:] != "vvvv" && types[1:] != "ssss" {
				continue
			}
			if kind, e := agree(t, over(api.Row{Kind: 8, Op: name}, types)); e == api.OK {
				right++
				if want := strings.Index(letters, k.result); kind != want {
					t.Fatalf("%s of %s is %d", name, types, kind)
				}
			}
		}
		want := 1
		switch name {
		case "round", "day_of_month", "day_of_week", "day_of_year", "days_in_month", "hour", "minute", "month", "year":
			want = 2
		case "label_join":
			want = 3
		}
		if right != want {
			t.Errorf("%s is taken with %d lists of arguments", name, right)
		}
	}
}

// P14.2: functions that there are none, whatever their arguments are.
func TestCallsUnknown(t *testing.T) {
	for _, name := range []string{"nothing", "Rate", "RATE", "rates", "rat", "abs_", "sums", "start", "end", "x", "holt_winters"} {
		for _, types := range []string{"", "s", "v", "m", "t", "vv", "tttttt"} {
			if _, e := agree(t, over(api.Row{Kind: 8, Op: name}, types)); e != api.ErrFunction {
				t.Errorf("%s of %s: %d", name, types, e)
			}
		}
	}
}

// P14.2: label_join with few and many arguments, and with a text that is no label's name at each place.
func TestLabelJoin(t *testing.T) {
	for n := 3; n <= 8; n++ {
		right := over(api.Row{Kind: 8, Op: "label_join"}, "v"+strings.Repeat("t", n-1))
		if kind, e := agree(t, right); kind != api.ValVector || e != api.OK {
			t.Errorf("%d arguments: %d, %d", n, kind, e)
		}
		for place := 1; place < n; place++ {
			for _, s := range []string{"", "1", "1a", "a-b", "a:b", "é", "a ", "\x00", "(", "a", "_", "__name__", "A1", "by", "inf"} {
				rows := slices.Clone(right)
				rows[1+place].Text = s
				want := api.OK
				if place != 2 && !label(s) {
					want = api.ErrGrouping
				}
				if _, e := agree(t, rows); e != want {
					t.Errorf("%q at place %d of %d: %d", s, place, n, e)
				}
			}
			for _, letter := range []string{"s", "v", "m"} {
				types := []byte("v" + strings.Repeat("t", n-1))
				types[place] = letter[0]
				if _, e := agree(t, over(api.Row{Kind: 8, Op: "label_join"}, string(types))); e != api.ErrType {
					t.Errorf("the type %s at place %d of %d: %d", letter, place, n, e)
				}
			}
		}
	}
	answers(t, `label_join(up, "a")`, 0, api.ErrArity)
	answers(t, `label_join(up, "a", "(", "b", "c", "d", "e-")`, 0, api.ErrGrouping)
}

// P14.2: label_replace with texts of all sorts at each place.
func TestLabelReplace(t *testing.T) {
	right := over(api.Row{Kind: 8, Op: "label_replace"}, "vtttt")
	for place := 1; place <= 4; place++ {
		for _, s := range slices.Concat(patterns(), []string{"a", "_", "__name__", "A1", "1", "a-b", "a:b", "$1", "${x"}) {
			rows := slices.Clone(right)
			rows[1+place].Text = s
			want := api.OK
			switch {
			case (place == 1 || place == 3) && !label(s):
				want = api.ErrGrouping
			case place == 4 && !compiles(s):
				want = api.ErrRegex
			}
			if _, e := agree(t, rows); e != want {
				t.Errorf("%.20q at place %d: %d", s, place, e)
			}
		}
	}
	answers(t, `label_replace(up, "a", "(", "b", "")`, api.ValVector, api.OK)
	answers(t, `label_replace(up, "a", "(", "b-", "x")`, 0, api.ErrGrouping)
}

// P14.2: each aggregation with and without a parameter, of and over each type.
func TestAggregations(t *testing.T) {
	for _, op := range aggregations() {
		right := ""
		for _, types := range slices.Concat(typeLists(1), typeLists(2)) {
			for _, r := range []api.Row{{Kind: 9, Op: op}, {Kind: 9, Op: op, Without: true}, {Kind: 9, Op: op, Labels: []string{"a", "a"}}} {
				kind, e := agree(t, over(r, types))
				if e == api.OK {
					right = types
				}
				if (e == api.OK) != (types == params()[op]+"v") || e == api.OK && kind != api.ValVector {
					t.Errorf("%s over %s: %d, %d", op, types, kind, e)
				}
			}
		}
		if right == "" {
			t.Errorf("%s is never taken", op)
		}
	}
	for _, s := range []string{"", "1", "a-b", "a:b", "é", "a ", "(", "a", "_", "__name__", "A1", "by"} {
		rows := over(api.Row{Kind: 9, Op: "count_values"}, "tv")
		rows[1].Text = s
		if _, e := agree(t, rows); (e == api.OK) != label(s) || e != api.OK && e != api.ErrGrouping {
			t.Errorf("count_values of %q: %d", s, e)
		}
	}
	answers(t, "topk(scalar(up), up)", api.ValVector, api.OK)
	answers(t, "quantile(1 + 1, up[5m])", 0, api.ErrType)
	answers(t, "count_values(1, up)", 0, api.ErrType)
	answers(t, "count_values(up)", 0, api.ErrArity)
	answers(t, `sum("a", up)`, 0, api.ErrArity)
}

// P14.2: each kind of node over kids of each type that are made in other ways than the plainest.
func TestTypesOfKids(t *testing.T) {
	kids := map[string][]string{
		"s": {"time()", "pi()", "scalar(up)", "-1", "1 + 1", "1 < bool 2", "5m", "-(1 ^ 2)"},
		"t": {"'x'", "('x')", `""`},
		"v": {"up", "-up", "up + 1", "1 + up", "up and up", "sum(up)", "rate(up[5m])", "vector(1)", "hour()", "topk(1, up)", "label_join(up, 'a', '')"},
		"m": {"up[5m]", "up[5m:]", "(up + 1)[5m:1m]", "sum(up)[5m:1m]"},
	}
	for letter, list := range kids {
		for _, kid := range list {
			k := "(" + kid + ")"
			answers(t, k, strings.Index(letters, letter), api.OK)
			expect := func(text string, takes string, kind int) {
				t.Helper()
				if strings.Contains(takes, letter) {
					answers(t, text, kind, api.OK)
				} else {
					answers(t, text, 0, api.ErrType)
				}
			}
			expect("-"+k, "sv", strings.Index(letters, letter))
			expect(k+" + 1", "sv", strings.Index(letters, letter))
			expect("up * "+k, "sv", api.ValVector)
			expect(k+" or up", "v", api.ValVector)
			expect("up unless "+k, "v", api.ValVector)
			expect(k+"[5m:]", "v", api.ValMatrix)
			expect("sum("+k+")", "v", api.ValVector)
			expect("topk("+k+", up)", "s", api.ValVector)
			expect("abs("+k+")", "v", api.ValVector)
			expect("rate("+k+")", "m", api.ValVector)
			expect("vector("+k+")", "s", api.ValVector)
			expect("scalar("+k+")", "v", api.ValScalar)
			expect("hour("+k+")", "v", api.ValVector)
			expect("round(up, "+k+")", "s", api.ValVector)
			expect("predict_linear("+k+", 1)", "m", api.ValVector)
			expect("label_join(up, 'a', "+k+")", "t", api.ValVector)
		}
	}
}

// P14.2: trees by chance, with slips in them.
func TestCheckRandom(t *testing.T) {
	counts := map[api.Errno]int{}
	for _, slip := range []int{10, 40, 200} {
		f := newForest(uint64(slip), slip)
		for i := range 4000 {
			_, e := agree(t, f.tree("stvm"[i%4], 1+i%7))
			counts[e]++
		}
	}
	for _, e := range []api.Errno{api.OK, api.ErrType, api.ErrArity, api.ErrFunction, api.ErrBare, api.ErrRegex, api.ErrGrouping, api.ErrBool, api.ErrWidth, api.ErrNameTwo, api.ErrTime} {
		if counts[e] < 20 {
			t.Errorf("error %d: %d times", e, counts[e])
		}
	}
}

// P14.2: trees by chance without a slip are taken, with the type that they were made of.
func TestCheckTakes(t *testing.T) {
	f := newForest(1, 0)
	deep := 0
	for i := range 3000 {
		letter := "vtvmvs"[i%6]
		rows := f.tree(letter, 1+i%9)
		if kind, e := check.Check(built(t, rows)); e != api.OK || kind != strings.IndexByte(letters, letter) {
			t.Fatalf("Check(%+v) = %d, %d", rows, kind, e)
		}
		if len(rows) > 20 {
			deep++
		}
	}
	if deep < 100 {
		t.Errorf("%d have more than 20 nodes", deep)
	}
}

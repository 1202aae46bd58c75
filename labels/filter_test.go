package labels_test

import (
	"regexp"
	"strings"
	"testing"

	"weir/api"
	"weir/labels"
	"weir/rx"
)

// filter: the filter of matchers that have no fault.
func filter(t *testing.T, ms ...api.Matcher) *labels.Filter {
	t.Helper()
	f, at, e := labels.Compile(ms)
	if f == nil || at != 0 || e != 0 {
		t.Fatalf("Compile(%+v) = %v, %d, %d", ms, f, at, e)
	}
	return f
}

func checkCompile(t *testing.T, ms []api.Matcher) *labels.Filter {
	t.Helper()
	f, at, e := labels.Compile(ms)
	if wantAt, want := wordsCompile(ms); at != wantAt || e != want || (f == nil) != (want != 0) {
		t.Fatalf("Compile(%+v) = %v, %d, %d; want %d, %d", ms, f, at, e, wantAt, want)
	}
	return f
}

// P16.6: each operator with values that it holds of and such that it doesn't, and a label that is missing.
func TestHoldsExamples(t *testing.T) {
	for _, c := range []struct {
		op            int
		value         string
		holds, doesnt string // values, with blanks between them; - is the empty one
	}{
		{api.MatchEq, "x", "x", "- xx X xy \xff"},
		{api.MatchEq, "", "-", "x \x00"},
		{api.MatchEq, "x|y", "x|y", "- x y"},
		{api.MatchNe, "x", "- xx X xy \xff", "x"},
		{api.MatchNe, "", "x \x00", "-"},
		{api.MatchRe, "x|y", "x y", "- xy xx z x|y"},
		{api.MatchRe, "", "-", "x"},
		{api.MatchRe, "x*", "- x xxx", "xy \xff"},
		{api.MatchRe, ".*", "- x é", "\xff x\xff"},
		{api.MatchRe, "(?i)up", "up UP uP", "- u upp xup"},
		{api.MatchNre, "x|y", "- xy xx z x|y", "x y"},
		{api.MatchNre, "", "x", "-"},
		{api.MatchNre, ".*", "\xff x\xff", "- x é"},
		{api.MatchNre, "a\\.b", "- axb a.bc", "a.b"},
	} {
		f := filter(t, api.Matcher{Name: "a", Op: c.op, Value: c.value})
		for want, list := range map[bool]string{true: c.holds, false: c.doesnt} {
			for _, value := range strings.Fields(list) {
				value = strings.TrimPrefix(value, "-")
				if got := f.Holds(set("a", value)); got != want {
					t.Errorf("operator %d with %q: Holds of %q is %t", c.op, c.value, value, got)
				}
				if value == "" && (f.Holds(nil) != want || f.Holds(set("b", "x", "A", "x")) != want) {
					t.Errorf("operator %d with %q: of a label that is missing", c.op, c.value)
				}
			}
		}
	}
}

// P16.6: the first label of a name counts, in any list; a filter of no matchers holds of everything, a nil one of nothing.
func TestHoldsLists(t *testing.T) {
	a1 := filter(t, api.Matcher{Name: "a", Op: api.MatchEq, Value: "1"})
	all := filter(t)
	var none *labels.Filter
	for _, c := range []struct {
		ls   []api.Label
		want bool
	}{
		{set("a", "1", "a", "2"), true},
		{set("a", "2", "a", "1"), false},
		{set("z", "1", "a", "1", "b", ""), true},
		{set("a", "", "a", "1"), false},
		{set("\xff", "1", "", "", "a", "1"), true},
		{set("A", "1"), false},
		{set("aa", "1"), false},
		{nil, false},
		{[]api.Label{}, false},
	} {
		if got := a1.Holds(c.ls); got != c.want {
			t.Errorf("Holds(%q) = %t", c.ls, got)
		}
		if !all.Holds(c.ls) || none.Holds(c.ls) {
			t.Errorf("no matchers, and a nil filter, of %q", c.ls)
		}
	}
	if f := filter(t, []api.Matcher{}...); !f.Holds(nil) {
		t.Error("a filter of an empty list")
	}
}

// P16.6: the chapter's example of Compile, each error, and which comes first.
func TestCompileExamples(t *testing.T) {
	good := api.Matcher{Name: "a", Op: api.MatchEq, Value: "1"}
	long := strings.Repeat("a", api.MaxPattern)
	for _, c := range []struct {
		m api.Matcher
		e api.Errno
	}{
		{api.Matcher{Name: "b", Op: api.MatchRe, Value: "("}, api.ErrRxBrackets},
		{api.Matcher{Name: "b", Op: api.MatchNre, Value: "["}, api.ErrRxClass},
		{api.Matcher{Name: "b", Op: api.MatchRe, Value: "a**"}, api.ErrRxRepeat},
		{api.Matcher{Name: "b", Op: api.MatchNre, Value: "\\8"}, api.ErrRxEscape},
		{api.Matcher{Name: "b", Op: api.MatchRe, Value: "(?z)"}, api.ErrRxFlags},
		{api.Matcher{Name: "b", Op: api.MatchRe, Value: "(?P<->a)"}, api.ErrRxGroup},
		{api.Matcher{Name: "b", Op: api.MatchRe, Value: "(a{1000}){1000}"}, api.ErrBig},
		{api.Matcher{Name: "b", Op: api.MatchRe, Value: long + "a"}, api.ErrLong},
		{api.Matcher{Name: "b", Op: api.MatchNre, Value: long + "\xff"}, api.ErrUTF},
		{api.Matcher{Name: "b", Op: api.MatchRe, Value: "(\xff"}, api.ErrUTF},
		{api.Matcher{Name: "b", Op: api.MatchEq, Value: "\xff"}, api.ErrUTF},
		{api.Matcher{Name: "b", Op: api.MatchNe, Value: "a\xc3"}, api.ErrUTF},
		{api.Matcher{Name: "0", Op: api.MatchEq, Value: "\xff"}, api.ErrLabels},
		{api.Matcher{Name: "", Op: api.MatchRe, Value: "("}, api.ErrLabels},
		{api.Matcher{Name: "a:b", Op: api.MatchNe, Value: "1"}, api.ErrLabels},
		{api.Matcher{Name: "\xff", Op: api.MatchNre, Value: "1"}, api.ErrLabels},
		{api.Matcher{Name: "0", Op: 0, Value: "\xff"}, api.ErrKind},
		{api.Matcher{Name: "b", Op: 5, Value: "("}, api.ErrKind},
		{api.Matcher{Name: "b", Op: -1}, api.ErrKind},
		{api.Matcher{}, api.ErrKind},
	} {
		for _, ms := range [][]api.Matcher{{c.m}, {good, c.m}, {good, c.m, good, {}}, {good, good, c.m, {Name: "b", Op: 3, Value: ")"}}} {
			at := 0
			for ms[at] != c.m {
				at++
			}
			if f, i, e := labels.Compile(ms); f != nil || i != at || e != c.e {
				t.Errorf("Compile(%+v) = %v, %d, %d; want %d at %d", ms, f, i, e, c.e, at)
			}
		}
		if yes, e := labels.Blank(c.m); yes || e != c.e {
			t.Errorf("Blank(%+v) = %t, %d; want %d", c.m, yes, e, c.e)
		}
	}
	for _, m := range []api.Matcher{{Name: "a", Op: 1, Value: "("}, {Name: "a", Op: 2, Value: "["}, {Name: "a", Op: 1, Value: long + "a"}, {Name: "a", Op: 3, Value: long}, {Name: "inf", Op: 4}, {Name: "__name__", Op: 2}} {
		filter(t, m)
	}
}

// P16.6: Blank of each operator; the chapter's example.
func TestBlankExamples(t *testing.T) {
	for _, c := range []struct {
		op    int
		value string
		want  bool
	}{
		{api.MatchNe, "x", true},
		{api.MatchNe, "", false},
		{api.MatchEq, "x", false},
		{api.MatchEq, "", true},
		{api.MatchRe, "", true},
		{api.MatchRe, "a+", false},
		{api.MatchRe, "a*", true},
		{api.MatchRe, "a|", true},
		{api.MatchNre, "", false},
		{api.MatchNre, "a+", true},
		{api.MatchNre, "a*", false},
		{api.MatchNre, "\\b", true},
	} {
		if got, e := labels.Blank(api.Matcher{Name: "a", Op: c.op, Value: c.value}); got != c.want || e != 0 {
			t.Errorf("Blank of operator %d with %q = %t, %d", c.op, c.value, got, e)
		}
	}
}

// contrary: != for =, !~ for =~, and back.
func contrary(op int) int { return []int{0, 2, 1, 4, 3, 5}[op] }

// P16.6: one matcher over all values: = and !=, =~ and !~ are each other's contrary; Blank is what it says of the empty value.
func TestOneMatcher(t *testing.T) {
	for _, name := range names() {
		for _, text := range append(append(values(), patterns()...), wrongPatterns()...) {
			for op := range 6 {
				m, other := api.Matcher{Name: name, Op: op, Value: text}, api.Matcher{Name: name, Op: contrary(op), Value: text}
				f := checkCompile(t, []api.Matcher{m})
				yes, e := labels.Blank(m)
				if _, want := wordsCompile([]api.Matcher{m}); e != want || yes != (want == 0 && wordsMatch(m, "")) {
					t.Fatalf("Blank(%+v) = %t, %d", m, yes, e)
				}
				if f == nil {
					continue
				}
				against := filter(t, other)
				for _, value := range values() {
					ls := set("x", text, name, value)
					if got := f.Holds(ls); got != wordsHolds([]api.Matcher{m}, ls) || got == against.Holds(ls) {
						t.Fatalf("the filter of %+v: Holds(%q) = %t", m, ls, got)
					}
				}
			}
		}
	}
}

// P16.6: patterns match whole values, as another machine for them says.
func TestWholeValues(t *testing.T) {
	for _, pattern := range patterns() {
		re := regexp.MustCompile(`\A(?:` + pattern + `)\z`)
		f := filter(t, api.Matcher{Name: "a", Op: api.MatchRe, Value: pattern})
		for _, value := range append(goodValues(), "", "a", "ab", "abcd", "UP", "x", "a.b", "aab") {
			if got := f.Holds(set("a", value)); got != re.MatchString(value) {
				t.Errorf("%q over %q: %t", pattern, value, got)
			}
		}
	}
}

// P16.6: filters of many matchers hold just where the filter of each one does; the first fault counts.
func TestManyMatchers(t *testing.T) {
	c, held := newChance(9), 0
	for i := range 20000 {
		ms := c.matchers(4, i%2 == 0)
		f := checkCompile(t, ms)
		if f == nil {
			continue
		}
		for range 4 {
			ls := c.any(6)
			each := true
			for _, m := range ms {
				each = filter(t, m).Holds(ls) && each
			}
			got := f.Holds(ls)
			if got != each || got != wordsHolds(ms, ls) {
				t.Fatalf("the filter of %+v: Holds(%q) = %t", ms, ls, got)
			}
			if got && len(ms) > 1 {
				held++
			}
		}
	}
	if held < 1000 {
		t.Errorf("many matchers hold %d times alone", held)
	}
}

// P16.6: a filter asks values as rx does, at the greatest pattern too.
func TestGreatPattern(t *testing.T) {
	for _, pattern := range []string{strings.Repeat("(", api.MaxRxDepth) + strings.Repeat(")*", api.MaxRxDepth), "(a{100}b?){90}", strings.Repeat("a|", api.MaxPattern/2-1)} {
		re, e := rx.Compile(pattern)
		f, at, err := labels.Compile([]api.Matcher{{Name: "a", Op: 3, Value: pattern}})
		if err != e || at != 0 || (f == nil) != (e != 0) {
			t.Errorf("Compile of a pattern of %d bytes: %d; rx.Compile: %d", len(pattern), err, e)
		}
		for _, value := range []string{"", "a", strings.Repeat("a", 9000), strings.Repeat("a", 9001)} {
			if f.Holds(set("a", value)) != re.Match(value) {
				t.Errorf("a pattern of %d bytes over %d bytes", len(pattern), len(value))
			}
		}
	}
}

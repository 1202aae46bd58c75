package fns_test

import (
	"fmt"
	"regexp"
	"slices"
	"strings"
	"testing"

	"weir/api"
	"weir/fns"
)

// P23.2: the chapter's examples of LabelReplace, and such as tell its texts apart.
func TestReplaceExamples(t *testing.T) {
	const xy, two = `{a="x-y"} 1`, `up{a="1",b="x"} 1; up{a="2"} 2; down{b="y"} 3`
	for _, c := range []struct{ v, dst, template, src, pattern, want string }{
		{xy, "b", "$2", "a", "(.*)-(.*)", `{a="x-y",b="y"} 1`},
		{xy, "b", "$2", "a", "z", xy},
		{xy, "a", "", "a", ".*", `{} 1`},
		{xy, "a", "$2.$1", "a", "(.*)-(.*)", `{a="y.x"} 1`},
		{xy, "b", "$2", "a", "(.*)-", xy},
		{xy, "b", "$2", "a", "x", xy},
		{xy, "A", "$0", "a", ".*", `{A="x-y",a="x-y"} 1`},
		{xy, "b", "${l}$r$$", "a", "(?P<l>.)-(?P<r>.)", `{a="x-y",b="xy$"} 1`},
		{xy, "b", "$3$x", "a", "(.)-(.)", `{a="x-y"} 1`},
		{two, "c", "n", "b", "x", `down{b="y"} 3; up{a="1",b="x",c="n"} 1; up{a="2"} 2`},
		{two, "c", "n", "b", "", `down{b="y"} 3; up{a="1",b="x"} 1; up{a="2",c="n"} 2`},
		{two, "c", "$1", "b", "(.*)", `down{b="y",c="y"} 3; up{a="1",b="x",c="x"} 1; up{a="2"} 2`},
		{two, "b", "", "b", ".+", `down 3; up{a="1"} 1; up{a="2"} 2`},
		{two, "c", "n", "nothing", ".*", `down{b="y",c="n"} 3; up{a="1",b="x",c="n"} 1; up{a="2",c="n"} 2`},
		{two, "c", "n", "nothing", ".+", `down{b="y"} 3; up{a="1",b="x"} 1; up{a="2"} 2`},
		{two, "__name__", "${1}s", "__name__", "(up)", `down{b="y"} 3; ups{a="1",b="x"} 1; ups{a="2"} 2`},
		{two, "__name__", "", "__name__", "up", `down{b="y"} 3; {a="1",b="x"} 1; {a="2"} 2`},
		{two, "__name__", "a b", "a", "1", `{__name__="a b",a="1",b="x"} 1; down{b="y"} 3; up{a="2"} 2`},
		{two, "n", "$1", "__name__", "(.).*", `down{b="y",n="d"} 3; up{a="1",b="x",n="u"} 1; up{a="2",n="u"} 2`},
		{`{a="2"} 1; {b="1"} 2`, "A", "x", "b", "1", `{A="x",b="1"} 2; {a="2"} 1`},
		{``, "b", "", "a", "", ``},
		{`{a="é"} 1`, "b", "[$1]", "a", "(.)", `{a="é",b="[é]"} 1`},
	} {
		got, e := fns.LabelReplace(vec(c.v), c.dst, c.template, c.src, c.pattern)
		verifyVector(t, got, e, vec(c.want), 0, "LabelReplace", c)
		checkReplace(t, vec(c.v), c.dst, c.template, c.src, c.pattern)
		verify(t, "label_replace", args("v:"+c.v, c.dst, c.template, c.src, c.pattern), 0, vectorArg(vec(c.want)), 0)
	}
}

// P23.2: the errors of LabelReplace in their order, of no elements too, and by way of Call.
func TestReplaceErrors(t *testing.T) {
	for _, v := range []string{"", `up{a="1"} 1`, `up{a="1"} 1; down{a="2"} 2`} {
		for _, wrong := range wrongLabels() {
			wantReplace(t, v, wrong, "", "a", "", api.ErrDest)
			wantReplace(t, v, "a", "", wrong, "", api.ErrDest)
			wantReplace(t, v, wrong, "\xff", "1", "(", api.ErrDest)
			wantReplace(t, v, "a", "\xff", wrong, "(", api.ErrDest)
		}
		for _, wrong := range wrongTexts() {
			wantReplace(t, v, "b", wrong, "a", "", api.ErrUTF)
			wantReplace(t, v, "b", wrong, "a", "(", api.ErrUTF)
			wantReplace(t, v, "b", wrong, "a", "no", api.ErrUTF)
		}
		for pattern, want := range map[string]api.Errno{"(": api.ErrRxBrackets, "[": api.ErrRxClass, "a**": api.ErrRxRepeat, "\\8": api.ErrRxEscape, "(?z)": api.ErrRxFlags, "(?P<->a)": api.ErrRxGroup, "\xff": api.ErrUTF, strings.Repeat("a", api.MaxPattern+1): api.ErrLong, strings.Repeat("(?:", api.MaxRxDepth+1): api.ErrDepth, "((a{30}){30}){30}": api.ErrBig} {
			wantReplace(t, v, "b", "$1", "a", pattern, want)
			wantReplace(t, v, "b", strings.Repeat("x", api.MaxMade+1), "a", pattern, want)
		}
	}
	for _, pattern := range wrongPatterns() {
		checkReplace(t, vec(`up{a="1"} 1`), "b", "", "a", pattern)
	}
}

// wantReplace: label_replace refuses that, both ways of asking.
func wantReplace(t *testing.T, v, dst, template, src, pattern string, want api.Errno) {
	t.Helper()
	got, e := fns.LabelReplace(vec(v), dst, template, src, pattern)
	verifyVector(t, got, e, nil, want, "LabelReplace", v, dst, template, src, pattern)
	verify(t, "label_replace", []api.Value{vectorArg(vec(v)), textArg(dst), textArg(template), textArg(src), textArg(pattern)}, 0, api.Value{}, want)
}

// P23.2: what LabelReplace makes may have MaxMade bytes, and none more; only of elements that match; ErrLong comes ahead of ErrDup.
func TestReplaceLong(t *testing.T) {
	of := func(n int) string { return strings.Repeat("é", n/2) + strings.Repeat("x", n%2) }
	for n := api.MaxMade - 2; n <= api.MaxMade+2; n++ {
		want := map[bool]api.Errno{true: api.ErrLong}[n > api.MaxMade]
		long := set("a", "1", "b", of(n))
		for _, c := range []struct {
			ls                     []api.Label
			template, src, pattern string
		}{
			{long, "$0", "b", "(?s).*"}, {long, "$1", "b", "(.*)"}, {long, "${x}", "b", "(?P<x>.*)"}, {long, "$1$2", "b", "(.{1000})(.*)"}, {long, "$2$1$3", "b", "(.*)(.?)(.*?)"},
			{set("a", "1"), of(n), "a", "1"}, {set("a", "1"), of(n-1) + "$1", "a", "(.)"}, {set("a", "1"), "$1" + of(n-2) + "$1", "a", "(.)"}, {set("a", "1"), of(n-1) + "$$", "a", "."}, {set("a", "1"), strings.Repeat("$1", n), "a", "(.)"}, {set("a", "12"), strings.Repeat("${1}", n-n/2) + strings.Repeat("$2", n/2), "a", "(.)(.)"}, {set("a", "1"), strings.Repeat("$0", n) + "$1$2$x", "a", "(x)?."}, {set("a", "1"), strings.Repeat("\x00\x01", n/2) + strings.Repeat("$1", n%2), "a", "(.)"},
		} {
			v := []api.Elem{{Labels: c.ls, V: 1}}
			if e := checkReplace(t, v, "dst", c.template, c.src, c.pattern); e != want {
				t.Errorf("%d bytes by %.20q and %q: %d", n, c.template, c.pattern, e)
			}
			got, e := fns.LabelReplace(v, "dst", c.template, c.src, c.pattern+"no")
			verifyVector(t, got, e, v, 0, "LabelReplace without a match", n)
		}
	}
	falling := []api.Elem{{Labels: set("a", "1", "b", "x")}, {Labels: set("a", "1", "b", "y")}, {Labels: set("c", of(9000))}}
	if e := checkReplace(t, falling, "b", "$0", "c", ".*"); e != api.ErrLong {
		t.Errorf("%d ahead of ErrDup", e)
	}
	if e := checkReplace(t, falling[:2], "b", "$0", "c", ".*"); e != api.ErrDup {
		t.Errorf("%d for ErrDup", e)
	}
	if e := checkReplace(t, []api.Elem{{Labels: set("a", of(9000))}}, "b", "x", "a", "é*"); e != 0 {
		t.Errorf("%d of a long value that isn't made", e)
	}
}

// P23.2: as many groups as a pattern may have, and control runes in templates and values.
func TestReplaceManyGroups(t *testing.T) {
	var template strings.Builder
	value := ""
	for i := range api.MaxRxGroups {
		value += string(rune(i))
		fmt.Fprintf(&template, "%c${%d}%s", rune(i), api.MaxRxGroups-i, strings.Repeat(fmt.Sprintf("$%d\x64", i), i%7))
	}
	v := []api.Elem{{Labels: set("a", value), V: 1}}
	for n := range api.MaxRxGroups + 1 {
		pattern := strings.Repeat("((?s).)", n) + "(?s).*"
		if e := checkReplace(t, v, "b", template.String(), "a", pattern); e != 0 {
			t.Errorf("%d groups: %d", n, e)
		}
		checkReplace(t, v, "b", strings.Repeat(template.String(), 4), "a", pattern)
	}
}

// P23.2: whole values are matched, and groups found, as another machine for patterns finds them.
func TestReplaceAgain(t *testing.T) {
	values := []string{"", "a", "ab", "ba", "abc", "aab", "x-y", "x-y-z", "-", "a.b", "abab", "é-é", "10.0.0.1:80"}
	for _, pattern := range []string{"", "a", ".*", "(.*)-(.*)", "(.*?)-(.*)", "(a|ab)(c|bcd)?", "(a*)(b*)", "(a)|(b)", "([a-z]+)(?:-([a-z]))*", "(?:(a)|(b))*", "([^:]*)(?::([0-9]+))?", "(.)(.*)"} {
		re := regexp.MustCompile(`\A(?:` + pattern + `)\z`)
		for _, template := range []string{"", "$1", "$2", "${1}_$2", "[$0]", "$1$1"} {
			for _, value := range values {
				v := []api.Elem{{Labels: set("q", "1"), V: 1}}
				if value != "" {
					v[0].Labels = set("a", value, "q", "1")
				}
				want := slices.Clone(v)
				if m := re.FindStringSubmatchIndex(value); m != nil {
					want[0].Labels = relabelled(v[0].Labels, "dst", string(re.ExpandString(nil, template, value, m)))
				}
				got, e := fns.LabelReplace(v, "dst", template, "a", pattern)
				verifyVector(t, got, e, want, 0, "LabelReplace", value, template, pattern)
			}
		}
	}
}

// P23.2: the chapter's example of LabelJoin, and such as tell its texts apart.
func TestJoinExamples(t *testing.T) {
	const two = `up{a="1",b="x"} 1; up{a="2"} 2; down{b="y"} 3`
	for _, c := range []struct{ v, dst, sep, srcs, want string }{
		{`{a="1",b="2"} 7`, "c", "-", "a x b", `{a="1",b="2",c="1--2"} 7`},
		{two, "c", "-", "a b", `down{b="y",c="-y"} 3; up{a="1",b="x",c="1-x"} 1; up{a="2",c="2-"} 2`},
		{two, "c", "-", "b a", `down{b="y",c="y-"} 3; up{a="1",b="x",c="x-1"} 1; up{a="2",c="-2"} 2`},
		{two, "c", "", "a b", `down{b="y",c="y"} 3; up{a="1",b="x",c="1x"} 1; up{a="2",c="2"} 2`},
		{two, "c", "", "b b a b", `down{b="y",c="yyy"} 3; up{a="1",b="x",c="xx1x"} 1; up{a="2",c="2"} 2`},
		{two, "c", ", ", "a", `down{b="y"} 3; up{a="1",b="x",c="1"} 1; up{a="2",c="2"} 2`},
		{two, "c", "-", "", `down{b="y"} 3; up{a="1",b="x"} 1; up{a="2"} 2`},
		{two, "b", "-", "", `down 3; up{a="1"} 1; up{a="2"} 2`},
		{two, "b", "", "nothing q", `down 3; up{a="1"} 1; up{a="2"} 2`},
		{two, "b", "-", "nothing q", `down{b="-"} 3; up{a="1",b="-"} 1; up{a="2",b="-"} 2`},
		{two, "b", "-", "b a b", `down{b="y--y"} 3; up{a="1",b="x-1-x"} 1; up{a="2",b="-2-"} 2`},
		{two, "__name__", ":", "__name__ a", `{__name__="down:",b="y"} 3; {__name__="up:1",a="1",b="x"} 1; {__name__="up:2",a="2"} 2`},
		{two, "__name__", "", "", `{a="1",b="x"} 1; {a="2"} 2; {b="y"} 3`},
		{`{a="2"} 1; {b="1"} 2`, "A", "", "b", `{A="1",b="1"} 2; {a="2"} 1`},
		{`{a="é"} 1`, "b", "é\x00", "a q a", "{a=\"é\",b=\"éé\\000é\\000é\"} 1"},
		{``, "b", "", "a", ``},
	} {
		srcs := strings.Fields(c.srcs)
		got, e := fns.LabelJoin(vec(c.v), c.dst, c.sep, srcs)
		verifyVector(t, got, e, vec(c.want), 0, "LabelJoin", c)
		checkJoin(t, vec(c.v), c.dst, c.sep, srcs)
		l := args("v:"+c.v, c.dst, c.sep)
		for _, name := range srcs {
			l = append(l, textArg(name))
		}
		verify(t, "label_join", l, 0, vectorArg(vec(c.want)), 0)
	}
	if e := checkJoin(t, vec(`up{a="1"} 1; up{a="2"} 2`), "a", "", []string{"b"}); e != api.ErrDup {
		t.Errorf("%d for ErrDup", e)
	}
}

// P23.2: the errors of LabelJoin in their order, of no elements too.
func TestJoinErrors(t *testing.T) {
	want := func(v, dst, sep string, srcs []string, want api.Errno) {
		t.Helper()
		got, e := fns.LabelJoin(vec(v), dst, sep, srcs)
		verifyVector(t, got, e, nil, want, "LabelJoin", v, dst, sep, srcs)
		l := []api.Value{vectorArg(vec(v)), textArg(dst), textArg(sep)}
		for _, name := range srcs {
			l = append(l, textArg(name))
		}
		verify(t, "label_join", l, 0, api.Value{}, want)
	}
	for _, v := range []string{"", `up{a="1"} 1`, `up{a="1"} 1; down{a="2"} 2`} {
		for _, wrong := range wrongLabels() {
			want(v, wrong, "", nil, api.ErrDest)
			want(v, wrong, "\xff", []string{"a"}, api.ErrDest)
			want(v, "a", "", []string{wrong}, api.ErrDest)
			want(v, "a", "\xff", []string{"a", "b", wrong}, api.ErrDest)
			want(v, "a", "-", []string{wrong, "a", "b"}, api.ErrDest)
		}
		for _, wrong := range wrongTexts() {
			want(v, "b", wrong, []string{"a"}, api.ErrUTF)
			want(v, "b", wrong, nil, api.ErrUTF)
		}
	}
}

// P23.2: what LabelJoin makes may have MaxMade bytes, and none more; ErrLong comes ahead of ErrDup.
func TestJoinLong(t *testing.T) {
	of := func(n int) string { return strings.Repeat("x", n) }
	many := func(n int, name string) []string { return slices.Repeat([]string{name}, n) }
	for n := api.MaxMade - 2; n <= api.MaxMade+2; n++ {
		want := map[bool]api.Errno{true: api.ErrLong}[n > api.MaxMade]
		for _, c := range []struct {
			ls   []api.Label
			sep  string
			srcs []string
		}{
			{set("a", of(n)), "", []string{"a"}}, {set("a", of(n-3)), "é-", []string{"a", "b"}}, {set("a", of(n-3)), "é-", []string{"b", "a"}}, {set("a", of(n-6)), "-", append(many(6, "b"), "a")}, {set("a", of(n-7), "b", "1234567"), "", []string{"b", "a"}}, {set("a", of(n/2), "b", of(n-n/2-4)), "--", []string{"a", "q", "b"}},
			{set("a", "1"), "", many(n, "a")}, {set("a", "1"), "-", many(n+1, "b")}, {set("a", "1"), of(n), many(2, "b")}, {set("a", "1"), of(n - 1), []string{"b", "a"}}, {nil, "-", many(n+1, "b")}, {set("a", "1", "b", "2"), "", slices.Concat(many(n/2, "a"), many(9, "q"), many(n-n/2, "b"))},
		} {
			v := []api.Elem{{Labels: c.ls, V: 1}}
			if e := checkJoin(t, v, "dst", c.sep, c.srcs); e != want {
				t.Errorf("%d bytes of %d labels: %d", n, len(c.srcs), e)
			}
		}
	}
	falling := []api.Elem{{Labels: set("a", "1", "b", "x")}, {Labels: set("a", "1", "b", "y")}, {Labels: set("c", of(9000))}}
	if e := checkJoin(t, falling, "b", "", []string{"c"}); e != api.ErrLong {
		t.Errorf("%d ahead of ErrDup", e)
	}
	if e := checkJoin(t, falling[:2], "b", "", []string{"c"}); e != api.ErrDup {
		t.Errorf("%d for ErrDup", e)
	}
	if e := checkJoin(t, []api.Elem{{Labels: set("a", of(9000), "b", "1")}}, "c", "", []string{"b"}); e != 0 {
		t.Errorf("%d of a long value that isn't made", e)
	}
	if e := checkJoin(t, nil, "c", of(9000), []string{"a", "b"}); e != 0 {
		t.Errorf("%d of no elements", e)
	}
}

// P23.2: LabelReplace and LabelJoin by chance, by the words.
func TestLabelsByChance(t *testing.T) {
	c, seen := newChance(5), map[api.Errno]int{}
	for i := range 20000 {
		slips := i%2 == 0
		v := c.vector(6, slips)
		if c.yes() {
			v = c.apart(8)
		}
		seen[checkReplace(t, v, c.label(slips), c.template(slips), c.label(slips), c.pattern(slips))]++
		seen[checkJoin(t, v, c.label(slips), c.sep(slips), c.labels(6, slips))]++
	}
	for _, e := range []api.Errno{0, api.ErrVector, api.ErrDest, api.ErrUTF, api.ErrDup, api.ErrRxBrackets} {
		if seen[e] < 40 {
			t.Errorf("the answers were %v", seen)
		}
	}
}

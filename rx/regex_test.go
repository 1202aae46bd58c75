package rx_test

import (
	"slices"
	"strconv"
	"strings"
	"testing"

	"weir/api"
	"weir/rx"
	"weir/rxprog"
	"weir/rxtree"
)

// P10.2: the chapter's examples.
func TestRegexExamples(t *testing.T) {
	if !compiled(t, "a|ab").Match("ab") {
		t.Error("a|ab, ab")
	}
	for _, c := range []struct {
		pattern, s string
		want       []int
	}{
		{"(a|ab)(c|bcd)?", "abcd", []int{0, 4, 0, 1, 1, 4}}, {"(a*?)(a*)", "aa", []int{0, 2, 0, 0, 0, 2}}, {"(a)|b", "b", []int{0, 1, -1, -1}},
	} {
		if l := compiled(t, c.pattern).Groups(c.s); !slices.Equal(l, c.want) {
			t.Errorf("%q, %q: %v", c.pattern, c.s, l)
		}
	}
	r, e := rx.Compile("(")
	if r != nil || e != api.ErrRxBrackets || r.Match("(") || r.Match("") {
		t.Error("half a bracket", e)
	}
}

// P10.2: each error of rxtree.Parse, then that of rxprog.Compile; the *Regex is nil with it.
func TestCompileErrors(t *testing.T) {
	great := "(?:a{1000}){1000}"
	for _, c := range []struct {
		pattern string
		want    api.Errno
	}{
		{strings.Repeat("a", api.MaxPattern+1), api.ErrLong}, {strings.Repeat("\xff", api.MaxPattern+1), api.ErrLong}, {"\xff", api.ErrUTF}, {"(\xff", api.ErrUTF}, {"a\xed\xa0\x80", api.ErrUTF}, {strings.Repeat("(?:", api.MaxRxDepth+1) + strings.Repeat(")", api.MaxRxDepth+1), api.ErrDepth},
		{"(", api.ErrRxBrackets}, {"a)", api.ErrRxBrackets}, {"(a", api.ErrRxBrackets}, {"[a", api.ErrRxClass}, {"[z-a]", api.ErrRxClass}, {"[[:foo:]]", api.ErrRxClass}, {"*", api.ErrRxRepeat}, {"a**", api.ErrRxRepeat}, {"a{1001}", api.ErrRxRepeat}, {"a{2,1}", api.ErrRxRepeat},
		{`\`, api.ErrRxEscape}, {`\1`, api.ErrRxEscape}, {`\x{110000}`, api.ErrRxEscape}, {"(?=a)", api.ErrRxFlags}, {"(?x)", api.ErrRxFlags}, {"(?P<>a)", api.ErrRxGroup}, {"(?P<x>a)(?P<x>b)", api.ErrRxGroup}, {"(?P<x>a)(?<x>b)", api.ErrRxGroup}, {strings.Repeat("()", api.MaxRxGroups+1), api.ErrRxGroup},
		{great, api.ErrBig}, {"(?:a{1000}){10}", api.ErrBig}, {"(?:(?:(?:a{1000}){1000}){1000}){1000}", api.ErrBig}, {great + "(", api.ErrRxBrackets}, {great + "a**", api.ErrRxRepeat},
	} {
		r, e := rx.Compile(c.pattern)
		if r != nil || e != c.want {
			t.Errorf("Compile(%.60q): %v, %d, not %d", c.pattern, r != nil, e, c.want)
		}
	}
}

// P10.2: what is exactly at a limit is taken.
func TestCompileAtLimits(t *testing.T) {
	r := compiled(t, "(?:a{1000}){9}a{999}")
	if !r.Match(strings.Repeat("a", 9999)) || r.Match(strings.Repeat("a", 9998)) || r.Match(strings.Repeat("a", 10000)) {
		t.Error("MaxInst instructions")
	}
	long := strings.Repeat("é", api.MaxPattern/2)
	if r = compiled(t, long); !r.Match(long) || r.Match(long[2:]) || r.Pattern() != long {
		t.Error("MaxPattern bytes")
	}
	r = compiled(t, strings.Repeat("(", api.MaxRxGroups)+"a"+strings.Repeat(")", api.MaxRxGroups))
	if l := r.Groups("a"); r.Count() != api.MaxRxGroups || !slices.Equal(l, slices.Repeat([]int{0, 1}, api.MaxRxGroups+1)) {
		t.Errorf("MaxRxGroups groups: %v", l)
	}
	r = compiled(t, strings.Repeat("(?:", api.MaxRxDepth)+"a"+strings.Repeat(")*", api.MaxRxDepth))
	if !r.Match("aaaa") || r.Match("aab") || r.Count() != 0 {
		t.Error("MaxRxDepth brackets")
	}
}

// P10.2: Match is of the whole text.
func TestMatch(t *testing.T) {
	for _, c := range []struct {
		pattern string
		yes, no []string
	}{
		{"", []string{""}, []string{"a", "\n", "\xff"}},
		{"a|ab", []string{"a", "ab"}, []string{"", "abc", "b", "xa", "aab"}},
		{"abc", []string{"abc"}, []string{"ab", "abcd", "xabc", "ABC", "abc\n", "abc\x00", "abc\xff"}},
		{".*", []string{"", "a", "é", "日本", "\r"}, []string{"\n", "a\n", "\xff", "a\xff"}},
		{"(?s).*", []string{"", "\n", "a\nb"}, []string{"\xc3", "\xed\xa0\x80"}},
		{".", []string{"é", "😀", "\uFFFD"}, []string{"", "éé", "\xc3", "\xff", "\n"}},
		{"(?i)straße", []string{"straße", "STRAßE"}, []string{"STRASSE", "strasse"}},
		{"[^a]", []string{"b", "\n", "é"}, []string{"a", "", "\xff"}},
		{"a{2,3}", []string{"aa", "aaa"}, []string{"", "a", "aaaa"}},
		{"^a$", []string{"a"}, []string{"\na", "a\n", "", "aa"}}, {"a^b", nil, []string{"ab", "a\nb"}}, {"^^a$$", []string{"a"}, nil}, {"(^a)*", []string{"", "a"}, []string{"aa"}},
		{"(?m)^a$\\n^b$", []string{"a\nb"}, []string{"a\n", "ab", "a\n\nb"}}, {"a$\\nb", nil, []string{"a\nb"}}, {"(?m)^$", []string{""}, []string{"\n"}}, {"(?m)(?:^.*$\\n?)*", []string{"", "a\nb\n\nc"}, nil},
		{`\ba\b`, []string{"a"}, nil}, {`a\bb`, nil, []string{"ab"}}, {`a\Bb`, []string{"ab"}, nil}, {`a\b-\bb`, []string{"a-b"}, nil}, {`\b`, nil, []string{"", "a"}}, {`\B`, []string{""}, []string{"a"}}, {`é\b_`, []string{"é_"}, nil}, {`é\bé`, nil, []string{"éé"}},
		{"[^\\x{0}-\\x{10ffff}]", nil, []string{"", "a", "\xff"}}, {"\\x{d800}", nil, []string{"\xed\xa0\x80", "\uFFFD", ""}}, {"\\x{fffd}", []string{"\uFFFD"}, []string{"\xff"}},
		{"(a|b)*c|(a|ab)*c", []string{"c", "abc", "ababc"}, []string{"ab", ""}},
	} {
		r := compiled(t, c.pattern)
		for i, s := range slices.Concat(c.yes, c.no) {
			if want := i < len(c.yes); r.Match(s) != want || (len(r.Groups(s)) > 0) != want {
				t.Errorf("%q, %q: %v, %v, not %v", c.pattern, s, r.Match(s), r.Groups(s), want)
			}
		}
	}
}

// P10.2: a regex answers what Run answers for its tree's program; Count and Name tell of its groups.
func TestRegexIsItsProgram(t *testing.T) {
	t.Parallel()
	texts := append(textsOver("aé\n", 3), textsOver("ab", 4)...)
	texts = append(texts, "\xff", "a\xff", "_")
	r := someRand()
	found := 0
	for i := range 1500 {
		x := someTree(r, 2+i%3)
		pattern, e := rxtree.Show(x)
		if e != api.OK || rxprog.Size(x) > 300 {
			continue
		}
		regex, p := compiled(t, pattern), program(t, x)
		if regex.Count() != p.Groups || regex.Pattern() != pattern {
			t.Fatalf("%q: %d groups, %q", pattern, regex.Count(), regex.Pattern())
		}
		for n, name := range p.Names {
			if regex.Name(n+1) != name {
				t.Fatalf("%q: group %d is named %q", pattern, n+1, regex.Name(n+1))
			}
		}
		for _, s := range texts {
			want := rx.Run(p, s)
			if got := regex.Groups(s); !slices.Equal(got, want) || regex.Match(s) != (len(want) > 0) {
				t.Fatalf("%q, %q: %v, %v, not %v", pattern, s, regex.Match(s), got, want)
			}
			if len(want) > 2 {
				found++
			}
		}
	}
	if found < 3000 {
		t.Errorf("%d findings with groups", found)
	}
}

// P10.2: names of groups, at and beyond both ends.
func TestNames(t *testing.T) {
	r := compiled(t, "(?P<x>.)(.)(?<long_Name_09>a(?P<_>b))(?P<1>c)(?P<007>)")
	want := []string{"x", "", "long_Name_09", "_", "1", "007"}
	if r.Count() != len(want) {
		t.Errorf("Count %d", r.Count())
	}
	for i, name := range want {
		if got := r.Name(i + 1); got != name {
			t.Errorf("Name(%d) = %q", i+1, got)
		}
	}
	for _, i := range numbersBeyond(r.Count()) {
		if got := r.Name(i); got != "" {
			t.Errorf("Name(%d) = %q", i, got)
		}
	}
	var all strings.Builder
	for i := range api.MaxRxGroups {
		all.WriteString("(?P<n" + strconv.Itoa(i+1) + ">)")
	}
	r = compiled(t, all.String())
	for i := 1; i <= api.MaxRxGroups; i++ {
		if r.Name(i) != "n"+strconv.Itoa(i) {
			t.Errorf("Name(%d) = %q", i, r.Name(i))
		}
	}
	if r.Count() != api.MaxRxGroups || r.Name(0) != "" || r.Name(api.MaxRxGroups+1) != "" {
		t.Error("of 100 groups")
	}
	for _, pattern := range []string{"", "a", "(?:a)", "[(]", `\(\)`, "(?i)(?:a|b)*"} {
		if r := compiled(t, pattern); r.Count() != 0 || r.Name(0) != "" || r.Name(1) != "" {
			t.Errorf("%q has %d groups", pattern, r.Count())
		}
	}
}

// numbersBeyond: numbers that are no group's, of so many groups.
func numbersBeyond(count int) []int {
	const most = int(^uint(0) >> 1)
	return []int{-most - 1, -1 << 32, -2, -1, 0, count + 1, count + 2, 101, 1 << 31, 1 << 32, 1<<32 + 1, most}
}

// P10.2: the pattern comes back as it was written, not as it was read.
func TestPattern(t *testing.T) {
	for _, pattern := range []string{"", "a", "(?i)k", "(?:a)", "[a]", "a{02}", `\Qa.b\E`, "(?<x>.)", "\n", "é|日", "^a$", "(?m)^a$"} {
		if got := compiled(t, pattern).Pattern(); got != pattern {
			t.Errorf("%q: %q", pattern, got)
		}
	}
}

// P10.2 and P10.3, and P1, rule 1: a nil regex matches nothing and holds nothing.
func TestNilRegex(t *testing.T) {
	var r *rx.Regex
	for _, s := range []string{"", "a", "$1", "\xff"} {
		if r.Match(s) || len(r.Groups(s)) != 0 {
			t.Errorf("%q is matched", s)
		}
		for _, groups := range [][]int{nil, {}, {0, 0}, {0, 1, 0, 1}} {
			if got := r.Expand("x$0", s, groups); got != "" {
				t.Errorf("Expand: %q", got)
			}
			if got := r.Expand("", s, groups); got != "" {
				t.Errorf("Expand: %q", got)
			}
		}
		for _, template := range []string{"", "x", "$0"} {
			if got, ok := r.Replace(s, template); got != "" || ok {
				t.Errorf("Replace: %q, %v", got, ok)
			}
		}
	}
	for _, i := range append(numbersBeyond(0), 1) {
		if r.Name(i) != "" {
			t.Errorf("Name(%d) = %q", i, r.Name(i))
		}
	}
	if r.Count() != 0 || r.Pattern() != "" {
		t.Error("Count or Pattern")
	}
}

package rxtree_test

import (
	"strconv"
	"strings"
	"testing"

	"weir/api"
	"weir/rxtree"
)

// P8.1, rule 3: each form of a group; numbers go by the open brackets.
func TestGroupForms(t *testing.T) {
	t.Parallel()
	a, b, c := lit('a'), lit('b'), lit('c')
	checkReadings(t, []reading{
		{"(a)", group(1, "", a)},
		{"(?P<x>a)", group(1, "x", a)},
		{"(?<x>a)", group(1, "x", a)},
		{"(?P<Az_09>a)", group(1, "Az_09", a)},
		{"(?<0>a)", group(1, "0", a)},
		{"(?<_>a)", group(1, "_", a)},
		{"(?P<P>a)", group(1, "P", a)},
		{"(?:a)", a},
		{"(?i:a)", class('A', 'A', 'a', 'a')},
		{"(?-i:a)", a},
		{"(?m-i:a)", a},
		{"(a)(b)(c)", cat(group(1, "", a), group(2, "", b), group(3, "", c))},
		{"((a)(b))c", cat(group(1, "", cat(group(2, "", a), group(3, "", b))), c)},
		{"((a)|b)|(c)", alt(group(1, "", alt(group(2, "", a), b)), group(3, "", c))},
		{"(?:(a))(b)", cat(group(1, "", a), group(2, "", b))},
		{"(?<x>a)(b)(?P<y>c)", cat(group(1, "x", a), group(2, "", b), group(3, "y", c))},
		{"(a)*(b)", cat(rep(0, -1, group(1, "", a)), group(2, "", b))},
		{"(?<x>)(?<X>)", cat(group(1, "x", empty()), group(2, "X", empty()))},
		{"(?<" + strings.Repeat("n", 4000) + ">a)", group(1, strings.Repeat("n", 4000), a)},
		{"((((a))))", group(1, "", group(2, "", group(3, "", group(4, "", a))))},
		{"(?:(?:(?:a)))", a},
	})
	checkRefusals(t, []refusal{
		{"(?P<>a)", api.ErrRxGroup}, {"(?<>a)", api.ErrRxGroup}, {"(?P<", api.ErrRxGroup}, {"(?<", api.ErrRxGroup}, {"(?P<x", api.ErrRxGroup}, {"(?<x", api.ErrRxGroup},
		{"(?P<x)a>", api.ErrRxGroup}, {"(?<é>a)", api.ErrRxGroup}, {"(?<x y>a)", api.ErrRxGroup}, {"(?<x-y>a)", api.ErrRxGroup}, {"(?<x.>a)", api.ErrRxGroup}, {"(?< x>a)", api.ErrRxGroup},
		{"(?<=a)", api.ErrRxGroup}, {"(?<!a)", api.ErrRxGroup}, {"(?P<<x>>a)", api.ErrRxGroup}, {"(?<x\x00>a)", api.ErrRxGroup}, {"(?<x:>a)", api.ErrRxGroup},
		{"(?<x>a)(?<x>b)", api.ErrRxGroup}, {"(?<x>a)(?P<x>b)", api.ErrRxGroup}, {"(?<x>(?<x>a))", api.ErrRxGroup}, {"(?<y>)(?<x>a)|(?<x>b)", api.ErrRxGroup}, {"(?<x>)(?<y>)(?<z>)(?<y>", api.ErrRxGroup},
		{"(?P=x)", api.ErrRxFlags}, {"(?P>x)", api.ErrRxFlags}, {"(?P)", api.ErrRxFlags}, {"(?P", api.ErrRxFlags}, {"(?Px>a)", api.ErrRxFlags}, {"(?'x'a)", api.ErrRxFlags},
		{"(?=a)", api.ErrRxFlags}, {"(?!a)", api.ErrRxFlags}, {"(?>a)", api.ErrRxFlags}, {"(?#a)", api.ErrRxFlags}, {"(?|a)", api.ErrRxFlags}, {"(?1)", api.ErrRxFlags}, {"(?R)", api.ErrRxFlags},
	})
	checkAll(t, texts(5, "(", "?", "P", "<", ">", ":", "i", "-", ")", "x"))
	for _, s := range texts(4, "(", "?", "P", "<", ">", ":", "i", "-", ")", "x", "*", "|") {
		checkParse(t, "(?"+s)
		checkParse(t, "(?"+s+")")
	}
}

// P8.1, rule 3: what are flags and what aren't.
func TestFlagForms(t *testing.T) {
	for _, s := range texts(4, "i", "m", "s", "U", "-") {
		for _, form := range []string{"(?%)", "(?%:a)", "(?%", "(?%:", "(?%)a^.$k*", "(?%:a^.$k*)a^.$k*", "x(?%)*", "x(?% )", "(?imsU)(?%)a^.$k*", "(?%a)"} {
			checkParse(t, strings.ReplaceAll(form, "%", s))
		}
	}
	for r := range rune(0x250) {
		for _, form := range []string{"(?%)a", "(?i%)a", "(?%i)a", "(?-%)a", "(?i-%)a", "(?%:a)", "(?i%:a)", "(?-%:a)"} {
			checkParse(t, strings.ReplaceAll(form, "%", string(r)))
		}
	}
	checkRefusals(t, []refusal{
		{"(?)", api.ErrRxFlags}, {"(?", api.ErrRxFlags}, {"(?i", api.ErrRxFlags}, {"(?i-", api.ErrRxFlags}, {"(?-)", api.ErrRxFlags}, {"(?i-)", api.ErrRxFlags}, {"(?-:a)", api.ErrRxFlags}, {"(?i-:a)", api.ErrRxFlags},
		{"(?--i)", api.ErrRxFlags}, {"(?i--m)", api.ErrRxFlags}, {"(?i-m-s)", api.ErrRxFlags}, {"(?u)", api.ErrRxFlags}, {"(?I)", api.ErrRxFlags}, {"(?x)", api.ErrRxFlags}, {"(?i m)", api.ErrRxFlags}, {"(? i)", api.ErrRxFlags}, {"(?^i)", api.ErrRxFlags},
	})
	plain, both := lit('k'), class('K', 'K', 'k', 'k')
	checkReadings(t, []reading{
		{"(?i)k", both}, {"(?ii)k", both}, {"(?i-i)k", plain}, {"(?-i)k", plain}, {"(?-ii)k", plain}, {"(?i-msU)k", both}, {"(?im-sU)k", both}, {"(?msU)k", plain}, {"(?i)", empty()}, {"(?imsU-imsU)", empty()},
		{"(?i)(?m)k", both}, {"(?i)(?-m)k", both}, {"(?mi)k^", cat(both, of(api.RxLineBegin))}, {"(?i:)k", cat(empty(), plain)},
	})
}

// P8.1, rule 3: how far flags last.
func TestFlagsLast(t *testing.T) {
	t.Parallel()
	a, b, A, B := lit('a'), lit('b'), class('A', 'A', 'a', 'a'), class('B', 'B', 'b', 'b')
	checkReadings(t, []reading{
		{"a(?i)b", cat(a, B)},
		{"a(?i)|b", alt(a, B)},
		{"(?i)a|b", alt(A, B)},
		{"a|(?i)b|a", alt(a, B, A)},
		{"(?:a(?i)b)a", cat(cat(a, B), a)},
		{"(?:(?i)a|b)a", cat(alt(A, B), a)},
		{"(a(?i)b)a", cat(group(1, "", cat(a, B)), a)},
		{"(?<x>(?i)b)a", cat(group(1, "x", B), a)},
		{"(?i:a(?-i)b)a", cat(cat(A, b), a)},
		{"(?i:a(?-i)b|a)a", cat(alt(cat(A, b), a), a)},
		{"(?i)(?-i:a)b", cat(a, B)},
		{"(?i)a(?:b(?-i)b)b", cat(A, cat(B, b), B)},
		{"(?i)(a(?-i))b", cat(group(1, "", A), B)},
		{"(?i)(((?-i)a)b)", group(1, "", cat(group(2, "", a), B))},
		{"((?i))a", cat(group(1, "", empty()), a)},
		{"(?i:(?m:a)b)a", cat(cat(A, B), a)},
		{"(?m)(?:(?-m)^|$)$", cat(alt(of(api.RxBegin), of(api.RxEnd)), of(api.RxLineEnd))},
		{"(?s:.).", cat(class(0, maxRune), class(0, 9, 11, maxRune))},
		{"(?i)[a](?-i)[a]", cat(A, a)},
		{`(?i)\Qa\E(?-i)\Qa\E`, cat(A, a)},
		{`\Q(?i)\Ea`, cat(lit('('), lit('?'), lit('i'), lit(')'), a)},
	})
	checkAll(t, texts(5, "(?i)", "(?-i)", "(?i:", "(?:", "(", ")", "a", "|", "*"))
	checkAll(t, texts(4, "(?m)", "(?s)", "(?U)", "(?mU-s:", "(?-mU:", "(", ")", "^", "$", ".", "*", "?", "|"))
}

// P8.1, rule 3: as many brackets as may be open, and one more; a setting isn't counted.
func TestBracketsLimit(t *testing.T) {
	const most = api.MaxRxDepth
	nested := func(n int, inner string) string {
		return strings.Repeat("(?:", n) + inner + strings.Repeat(")", n)
	}
	for _, opening := range []string{"(?:", "(?i:", "(?-s:"} {
		full := strings.Repeat(opening, most)
		checkRefusals(t, []refusal{
			{full, api.ErrRxBrackets},
			{full + opening, api.ErrDepth},
			{full + "(", api.ErrDepth},
			{full + "(?<x>", api.ErrDepth},
			{full + "(?P<>", api.ErrDepth},
			{full + "(?=", api.ErrDepth},
			{full + "(?i", api.ErrDepth},
			{full + "(?i-)", api.ErrDepth},
			{full + "(?", api.ErrDepth},
			{full + "(?)", api.ErrDepth},
			{full + "(?i:", api.ErrDepth},
			{full + "*(", api.ErrRxRepeat},
			{full + "a)(?:(", api.ErrDepth},
			{full + "(?i)(", api.ErrDepth},
			{full + `\(\Q((((\E[((]`, api.ErrRxBrackets},
			{full + strings.Repeat(")", most+1), api.ErrRxBrackets},
			{full[len(opening):] + "(?=", api.ErrRxFlags},
			{full[len(opening):] + "(?<", api.ErrRxGroup},
		})
	}
	checkReadings(t, []reading{
		{nested(most, "a"), lit('a')},
		{nested(most, ""), empty()},
		{nested(most, "(?i)a"), class('A', 'A', 'a', 'a')},
		{nested(most, "(?i)a") + nested(most, "b"), cat(class('A', 'A', 'a', 'a'), lit('b'))},
		{nested(most-1, "(a)(b)"), cat(group(1, "", lit('a')), group(2, "", lit('b')))},
		{strings.Repeat("(?i)", 300) + "_", lit('_')},
		{nested(most, strings.Repeat("(?m)", 300)+"_"), lit('_')},
		{strings.Repeat("(?:)", 300), cat(slicesOf(300, empty())...)},
	})
	checkRefusals(t, []refusal{{nested(most+1, "a"), api.ErrDepth}, {nested(most+1, ""), api.ErrDepth}, {nested(most, "(a)"), api.ErrDepth}})
	for n := most - 2; n < most+3; n++ {
		for _, inner := range []string{"a", "(a)", "(?i)a", "(?i:a)", "(?<x>a)", "[(]", `\(`, "a|(b)"} {
			checkParse(t, nested(n, inner))
			checkParse(t, nested(n, inner)+"*|(?:"+nested(n-1, inner)+")")
		}
	}
}

func slicesOf(n int, x api.Rx) []api.Rx {
	var out []api.Rx
	for range n {
		out = append(out, clone(x))
	}
	return out
}

// P8.1, rule 3: as many groups as may be, and one more; brackets that are no groups aren't counted.
func TestGroupsLimit(t *testing.T) {
	const most = api.MaxRxGroups
	full := strings.Repeat("()", most)
	nested := strings.Repeat("(", most) + strings.Repeat(")", most)
	for _, s := range []string{full, nested} {
		x, e := rxtree.Parse(s)
		if e != api.OK || len(rxtree.Groups(x)) != most {
			t.Errorf("%d groups: %d", most, e)
		}
		checkParse(t, s)
		checkParse(t, s+"(?:a)(?i:b)(?i)c")
		checkRefusals(t, []refusal{
			{s + "(", api.ErrRxGroup},
			{s + "()", api.ErrRxGroup},
			{s + "(?<x>", api.ErrRxGroup},
			{s + "(?P<x>a)", api.ErrRxGroup},
			{s + "(?P<>a)", api.ErrRxGroup},
			{s + "(?=a)", api.ErrRxFlags},
			{s + "(?:(", api.ErrRxGroup},
			{s + "(?:", api.ErrRxBrackets},
			{s + "|*", api.ErrRxRepeat},
			{s + "(*", api.ErrRxGroup},
		})
	}
	named := ""
	for i := range most {
		named += "(?<n" + strconv.Itoa(i) + ">)"
	}
	checkParse(t, named)
	checkParse(t, named+"(?:a)")
	if x, e := rxtree.Parse(named); e != api.OK || rxtree.Groups(x)[most-1] != "n99" {
		t.Errorf("%d groups with names: %d", most, e)
	}
	checkRefusals(t, []refusal{{named + "(?<new>)", api.ErrRxGroup}, {named + "()", api.ErrRxGroup}, {named[:len(named)-len("(?<n99>)")] + "(?<n0>)", api.ErrRxGroup}})
}

package show_test

import (
	"math"
	"slices"
	"strings"
	"testing"

	"weir/api"
	"weir/parse"
	"weir/show"
	"weir/tree"
)

// odd: texts that some field of a selector may hold and others may not.
func odd() []string {
	return []string{"", "1", "1.0", "5m", "-5m", "--5m", "- 5m", "+5m", "-", "5mm", "0s", "-0s", "10000y", "10000y1ms", "1m1h", "5M", " 5m", "5m ", "5m#x", "0x1F", "0x", "Inf", "nan", "iNf", "-inf", "infx", "1e3", "1e", "1e999", "-1", "+1", " 1", "1 ", "1#", "1\n", "1 2", "start", "end", "START", "start()", "starts", " end",
		"up", "a:b", ":", ":5", "a:", "_", "a b", " up", "up ", "up#", "up{}", "sum", "SUM", "by", "By", "offset", "Offset", "bool", "sum:", "sumx", "rate", "a1", "1a", "a.b", "a-b", "é", "aé", "\xff", "a\xff", "a\xc3", "\xed\xa0\x80", "\x00", "a\x00", "'x'", `"x"`, "{", "}", "(", ",", "=", ".5", ".",
		strings.Repeat("1", 512), strings.Repeat("1", 513), strings.Repeat("0", 63) + "s", strings.Repeat("0", 64) + "s", "-" + strings.Repeat("0", 63) + "s", strings.Repeat("n", 600), strings.Repeat("n", 600) + ":"}
}

func ints() []int {
	return []int{math.MinInt, -1 << 32, -2, -1, 0, 1, 2, 3, 4, 5, 6, 1 << 32, 1<<32 + 1, math.MaxInt}
}

// sameSelector holds Selector and Matchers against the chapter's words; and a text that isn't empty against what Show says of the node, and against what is read of it.
func sameSelector(t *testing.T, s api.Selector) string {
	t.Helper()
	got, want := show.Selector(s), shownSelector(s)
	if got != want {
		t.Fatalf("Selector(%+v) = %q; want %q", s, got, want)
	}
	if x, e := tree.Build([]api.Row{{Kind: 3, Text: s.Name, Matchers: s.Matchers, When: s.When}}); got != show.Show(x) || (e == api.OK) != (got != "") {
		t.Fatalf("Selector(%+v) = %q; Show says %q", s, got, show.Show(x))
	}
	if got != "" {
		agree(t, selector(s.Name, s.When, s.Matchers...))
	}
	braces, want := show.Matchers(s.Matchers), shownMatchers(s.Matchers)
	if braces != want {
		t.Fatalf("Matchers(%+v) = %q; want %q", s.Matchers, braces, want)
	}
	if x, _, e := parse.Selector(braces); braces != "" && (e != api.OK || !tree.Same(x, built(t, selector("", api.When{}, s.Matchers...)))) {
		t.Fatalf("%q is read as something else: %d", braces, e)
	}
	return got
}

// P15.2 and P15.3: selectors and matchers by hand.
func TestSelectorByHand(t *testing.T) {
	a, b := api.Matcher{Name: "a", Op: 1, Value: "x"}, api.Matcher{Name: "by", Op: 4, Value: "\n\"é"}
	for _, c := range []struct {
		s      api.Selector
		text   string
		braces string
	}{
		{api.Selector{}, "{}", "{}"},
		{api.Selector{Name: "up"}, "up", "{}"},
		{api.Selector{Name: "up", Matchers: []api.Matcher{}}, "up", "{}"},
		{api.Selector{Matchers: []api.Matcher{a}}, `{a="x"}`, `{a="x"}`},
		{api.Selector{Name: "a:b", Matchers: []api.Matcher{b, a}}, `a:b{by!~"\n\"é",a="x"}`, `{by!~"\n\"é",a="x"}`},
		{api.Selector{Matchers: []api.Matcher{{Name: "c", Op: 2}, {Name: "c", Op: 3}}}, `{c!="",c=~""}`, `{c!="",c=~""}`},
		{api.Selector{When: api.When{At: "end", Offset: "-1h"}}, "{} @ end() offset -1h", "{}"},
		{api.Selector{Name: "up", When: api.When{At: "start"}}, "up @ start()", "{}"},
		{api.Selector{Name: "up", Matchers: []api.Matcher{a}, When: api.When{At: "0x10"}}, `up{a="x"} @ 0x10`, `{a="x"}`},
		{api.Selector{Name: "up", When: api.When{Offset: "5m"}}, "up offset 5m", "{}"},
		{api.Selector{Name: "sum"}, "", "{}"},
		{api.Selector{Name: "Inf"}, "", "{}"},
		{api.Selector{Name: "1"}, "", "{}"},
		{api.Selector{Name: "up "}, "", "{}"},
		{api.Selector{Name: "up", When: api.When{Offset: "5"}}, "", "{}"},
		{api.Selector{Name: "up", When: api.When{Offset: "- 5m"}}, "", "{}"},
		{api.Selector{Name: "up", When: api.When{At: "5m"}}, "", "{}"},
		{api.Selector{Name: "up", When: api.When{At: "-1"}}, "", "{}"},
		{api.Selector{Name: "sum", Matchers: []api.Matcher{a}}, "", `{a="x"}`},
		{api.Selector{Name: "up", Matchers: []api.Matcher{a}, When: api.When{At: "now"}}, "", `{a="x"}`},
		{api.Selector{Name: "up", Matchers: []api.Matcher{{Name: "a:b", Op: 1}}}, "", ""},
		{api.Selector{Name: "up", Matchers: []api.Matcher{{Name: "a"}}}, "", ""},
		{api.Selector{Name: "up", Matchers: []api.Matcher{{Name: "a", Op: 5}}}, "", ""},
		{api.Selector{Name: "up", Matchers: []api.Matcher{{Name: "a", Op: 1, Value: "\xff"}}}, "", ""},
	} {
		if got := sameSelector(t, c.s); got != c.text {
			t.Errorf("Selector(%+v) = %q; want %q", c.s, got, c.text)
		}
		if got := show.Matchers(c.s.Matchers); got != c.braces {
			t.Errorf("Matchers(%+v) = %q; want %q", c.s.Matchers, got, c.braces)
		}
	}
}

// P15.2: each field of a selector, sound and not.
func TestSelectorFields(t *testing.T) {
	a := api.Matcher{Name: "a", Op: 3, Value: "("}
	taken := 0
	for _, s := range odd() {
		for _, base := range []api.Selector{{}, {Name: "up", Matchers: []api.Matcher{a}, When: api.When{At: "7", Offset: "1h"}}} {
			name, at, offset, both := base, base, base, base
			name.Name, at.At, offset.Offset = s, s, s
			both.At, both.Offset = s, s
			for _, one := range []api.Selector{name, at, offset, both} {
				if sameSelector(t, one) != "" {
					taken++
				}
			}
		}
	}
	if all := 8 * len(odd()); taken < 60 || taken > all-60 {
		t.Errorf("%d of %d are sound", taken, all)
	}
}

// P15.2 and P15.3: a matcher that isn't sound, at each place among sound ones.
func TestMatcherAmongOthers(t *testing.T) {
	var wrong []api.Matcher
	for _, s := range odd() {
		wrong = append(wrong, api.Matcher{Name: s, Op: 1, Value: "x"}, api.Matcher{Name: "a", Op: 2, Value: s})
	}
	for _, n := range ints() {
		wrong = append(wrong, api.Matcher{Name: "a", Op: n, Value: "x"})
	}
	good := []api.Matcher{{Name: "a", Op: 1, Value: "x"}, {Name: "b", Op: 2}, {Name: "inf", Op: 3, Value: "("}, {Name: "by", Op: 4, Value: "é"}}
	some := 0
	for _, m := range wrong {
		for at := range len(good) + 1 {
			list := slices.Insert(slices.Clone(good), at, m)
			sameSelector(t, api.Selector{Name: "up", Matchers: list})
			if soundMatchers(list) {
				some++
			}
		}
		sameSelector(t, api.Selector{Matchers: []api.Matcher{m}})
	}
	if all := len(wrong) * (len(good) + 1); some < all/8 || some > all*7/8 {
		t.Errorf("%d of %d are sound", some, all)
	}
}

// P15.2 and P15.3: selectors by chance.
func TestSelectorByChance(t *testing.T) {
	f := newForest(1)
	for range 1500 {
		r := f.selector()[0]
		s := api.Selector{Name: r.Text, Matchers: r.Matchers, When: r.When}
		switch f.dice.IntN(8) {
		case 0:
			s.Name = pick(f, odd())
		case 1:
			s.At = pick(f, odd())
		case 2:
			s.Offset = pick(f, odd())
		case 3:
			s.Matchers = append(s.Matchers, api.Matcher{Name: pick(f, odd()), Op: pick(f, ints()), Value: pick(f, odd())})
		}
		sameSelector(t, s)
	}
}

// P15.2: a name of MaxText bytes is one, a longer one is none: no text that is read holds it.
func TestLongestName(t *testing.T) {
	name := strings.Repeat("n", api.MaxText)
	if got := show.Selector(api.Selector{Name: name}); got != name {
		t.Errorf("%d bytes of a name", len(got))
	}
	if got := show.Selector(api.Selector{Name: name + "n"}); got != "" {
		t.Errorf("%d bytes of a name that is none", len(got))
	}
	label := []api.Matcher{{Name: name + "n", Op: 1, Value: name}}
	if got := show.Matchers(label); got != "{"+name+`n="`+name+`"}` {
		t.Errorf("%d bytes of a matcher", len(got))
	}
}

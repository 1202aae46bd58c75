package rxtree_test

import (
	"regexp"
	"slices"
	"strings"
	"testing"

	"weir/api"
	"weir/rxtree"
)

// What a tree matches is layer 9's to say; here it serves to hold trees against the library's own reading of a pattern.

// ends: the places up to which a tree matches a text from the place at.
func ends(x api.Rx, text []rune, at int) []int {
	here := func(ok bool) []int {
		if ok {
			return []int{at}
		}
		return nil
	}
	switch x.Kind {
	case api.RxEmpty:
		return here(true)
	case api.RxLit, api.RxClass:
		if at < len(text) && (x.Kind == api.RxLit && text[at] == x.R || slices.ContainsFunc(x.Ranges, func(g api.RuneRange) bool { return g.Lo <= text[at] && text[at] <= g.Hi })) {
			return []int{at + 1}
		}
		return nil
	case api.RxCat:
		from := here(true)
		for _, kid := range x.Kids {
			from = further(kid, text, from)
		}
		return from
	case api.RxAlt:
		var out []int
		for _, kid := range x.Kids {
			out = append(out, ends(kid, text, at)...)
		}
		return distinct(out)
	case api.RxRepeat:
		return repeatedEnds(x, text, at)
	case api.RxGroup:
		return ends(x.Kids[0], text, at)
	case api.RxBegin:
		return here(at == 0)
	case api.RxEnd:
		return here(at == len(text))
	case api.RxLineBegin:
		return here(at == 0 || text[at-1] == '\n')
	case api.RxLineEnd:
		return here(at == len(text) || text[at] == '\n')
	}
	word := func(i int) bool {
		return i >= 0 && i < len(text) && (isLetter(text[i]) || text[i] == '_' || '0' <= text[i] && text[i] <= '9')
	}
	return here((word(at-1) != word(at)) == (x.Kind == api.RxWord))
}

// further: the places up to which a tree matches from any of these.
func further(x api.Rx, text []rune, from []int) []int {
	var out []int
	for _, at := range from {
		out = append(out, ends(x, text, at)...)
	}
	return distinct(out)
}

func distinct(places []int) []int {
	slices.Sort(places)
	return slices.Compact(places)
}

func repeatedEnds(x api.Rx, text []rune, at int) []int {
	from := []int{at}
	for range x.Min {
		from = further(x.Kids[0], text, from)
	}
	all := from
	for k := x.Min; len(from) > 0 && (k < x.Max || x.Max == -1 && k <= x.Min+len(text)); k++ {
		from = further(x.Kids[0], text, from)
		all = distinct(slices.Concat(all, from))
	}
	return all
}

func matches(x api.Rx, s string) bool {
	text := []rune(s)
	return slices.Contains(ends(x, text, 0), len(text))
}

// P8.1, P8.2: patterns mean what they mean to the library, and so do the texts of their trees; the groups are the same ones.
func TestByLibrary(t *testing.T) {
	r := someRand()
	letters := []string{"a", "b", "A", "k", "K", "Z", "0", "7", "_", " ", "\n", "é", "{", "}", "]", ".", "-", "^", "2", "\U0001F600"}
	yes, no := 0, 0
	for i := range 4000 {
		p := somePattern(r, 1+i%4)
		x, e := rxtree.Parse(p)
		re, err := regexp.Compile(`\A(?:` + p + `)\z`)
		if (e == api.OK) != (err == nil) {
			t.Fatalf("Parse(%q): %d, but %v", p, e, err)
		}
		if e != api.OK {
			continue
		}
		s, e := rxtree.Show(x)
		if e != api.OK {
			continue
		}
		canonical := regexp.MustCompile(`\A(?:` + s + `)\z`)
		if got, want := rxtree.Groups(x), re.SubexpNames()[1:]; !slices.Equal(got, want) || !slices.Equal(canonical.SubexpNames()[1:], want) {
			t.Fatalf("%q: groups %q, not %q", p, got, want)
		}
		for range 30 {
			text := ""
			for range r.IntN(5) {
				text += letters[r.IntN(len(letters))]
			}
			want := re.MatchString(text)
			if matches(x, text) != want || canonical.MatchString(text) != want {
				t.Fatalf("%q (%q) on %q: not %v", p, s, text, want)
			}
			if want {
				yes++
			} else {
				no++
			}
		}
	}
	if yes < 1000 || no < 1000 {
		t.Errorf("%d matches, %d none", yes, no)
	}
}

// P8.1: which part of a text goes to which group hangs on the order of alternatives and on laziness: those are as the library reads them too.
func TestOrderByLibrary(t *testing.T) {
	r := someRand()
	checked := 0
	for i := range 4000 {
		p := "(" + somePattern(r, 1+i%3) + ")(" + somePattern(r, 1+i%3) + ")"
		x, e := rxtree.Parse(p)
		if e != api.OK {
			continue
		}
		s, e := rxtree.Show(x)
		if e != api.OK {
			continue
		}
		plain, canonical := regexp.MustCompile(p), regexp.MustCompile(s)
		for range 20 {
			text := strings.Repeat("a", r.IntN(3)) + strings.Repeat("k", r.IntN(3)) + []string{"", "b", "\n", "7", "aZ", "ab"}[r.IntN(6)]
			if a, b := plain.FindStringSubmatch(text), canonical.FindStringSubmatch(text); !slices.Equal(a, b) {
				t.Fatalf("%q (%q) on %q: %q and %q", p, s, text, a, b)
			}
			checked++
		}
	}
	if checked < 20000 {
		t.Errorf("only %d texts", checked)
	}
}

// P8.1: short patterns that both read mean the same to the library.
func TestShortByLibrary(t *testing.T) {
	some := []string{"", "a", "b", "-", "]", "[", "^", "ab", "aa", "a-", "a]", "a*", "{", "a{2}", "A", "2", ":", `\`, "d", "}"}
	both := 0
	for _, p := range slices.Concat(texts(5, "[", "]", "^", "-", "a", `\d`), texts(5, "a", "*", "?", "{2}", "{", "|", "(?:", ")"), texts(4, `\Q`, `\E`, "a", "*", `\`, "(?i)", "[", "]")) {
		x, e := rxtree.Parse(p)
		re, err := regexp.Compile(`\A(?:` + p + `)\z`)
		if e != api.OK || err != nil {
			continue
		}
		both++
		for _, text := range some {
			if matches(x, text) != re.MatchString(text) {
				t.Fatalf("%q on %q: %v", p, text, matches(x, text))
			}
		}
	}
	if both < 5000 {
		t.Errorf("only %d patterns", both)
	}
}

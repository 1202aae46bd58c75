package rx_test

import (
	"regexp"
	"slices"
	"strings"
	"testing"
	"unicode/utf8"

	"weir/api"
	"weir/rx"
	"weir/rxprog"
	"weir/rxtree"
)

// checkMatches: Run of a tree's program finds something just in the texts that the tree matches; in how many it does.
func checkMatches(t *testing.T, x api.Rx, texts []string) int {
	t.Helper()
	p := program(t, x)
	n := 0
	for _, s := range texts {
		want := matches(x, s)
		if (len(rx.Run(p, s)) > 0) != want {
			t.Fatalf("%s, %q: the tree says %v", told(x), s, want)
		}
		if want {
			n++
		}
	}
	return n
}

// P10.4: small trees of each kind, and all short texts of runes that tell them apart, some of more bytes than one.
func TestMatchesSmallTrees(t *testing.T) {
	t.Parallel()
	texts := append(textsOver("aé\n_", 3), textsOver("ab", 4)...)
	texts = append(texts, "😀", "a😀a", "😀\n😀", "\x00", "\U0010FFFF", "\uD7FF\uE000", "\uFFFD", "a\r\nb", "éa", "aé", "日本", "0Z z9", "\n\n\n\n")
	found := 0
	for _, x := range smallTrees() {
		found += checkMatches(t, x, texts)
	}
	if found < 10000 {
		t.Errorf("%d texts are matched", found)
	}
}

// P10.4: trees made at random.
func TestMatchesManyTrees(t *testing.T) {
	t.Parallel()
	texts := append(textsOver("abé\n", 3), textsOver("a_", 5)...)
	r := someRand()
	programs, some := 0, 0
	for i := range 4000 {
		x := someTree(r, 2+i%3)
		if rxprog.Size(x) > 400 {
			continue
		}
		programs++
		if checkMatches(t, x, texts) > 0 {
			some++
		}
	}
	if programs < 3500 || some < 2000 {
		t.Errorf("%d programs, %d match something", programs, some)
	}
}

// P10.4: repeats at their bounds match just so many.
func TestMatchesCounts(t *testing.T) {
	t.Parallel()
	a := lit('a')
	for _, c := range []struct {
		x    api.Rx
		want []int // how many a
	}{
		{rep(3, 3, a), []int{3}}, {rep(2, 4, a), []int{2, 3, 4}}, {lazy(2, 4, a), []int{2, 3, 4}}, {rep(0, 0, a), []int{0}}, {rep(9, -1, a), []int{9, 10, 11}}, {lazy(10, -1, a), []int{10, 11}}, {rep(2, 2, rep(2, 3, a)), []int{4, 5, 6}}, {rep(0, 2, rep(3, 3, a)), []int{0, 3, 6}}, {rep(0, -1, rep(4, 4, a)), []int{0, 4, 8}}, {rep(1, 1, class()), nil}, {rep(0, -1, class()), []int{0}}, {rep(2, -1, alt(empty(), rep(5, 5, a))), []int{0, 5, 10}},
	} {
		p := program(t, c.x)
		for n := range 12 {
			if got := len(rx.Run(p, strings.Repeat("a", n))) > 0; got != slices.Contains(c.want, n) {
				t.Errorf("%s, %d times: %v", told(c.x), n, got)
			}
		}
	}
}

// P10.4: no tree matches bytes that aren't UTF-8.
func TestMatchesNoBytes(t *testing.T) {
	t.Parallel()
	bytes := []string{"\xff", "\x80", "\xc3", "a\xc3", "\xc3a", "\xed\xa0\x80", "\xf4\x90\x80\x80", "\xc0\x80", "é\xa9", "\xef\xbf", "aaa\xff", "\n\xe6\x97", "😀\xf0\x9f"}
	for _, x := range smallTrees() {
		p := program(t, x)
		for _, s := range bytes {
			if l := rx.Run(p, s); len(l) != 0 {
				t.Fatalf("%s, %q: %v", told(x), s, l)
			}
		}
	}
}

// starsOverNothing: whether somewhere what may be empty is repeated without end; there the library takes other ways, though to the same texts.
func starsOverNothing(x api.Rx) bool {
	if x.Kind == api.RxRepeat && x.Max == -1 && mayBeEmpty(x.Kids[0]) {
		return true
	}
	return slices.ContainsFunc(x.Kids, starsOverNothing)
}

func mayBeEmpty(x api.Rx) bool {
	switch x.Kind {
	case api.RxLit, api.RxClass:
		return false
	case api.RxCat:
		return !slices.ContainsFunc(x.Kids, func(k api.Rx) bool { return !mayBeEmpty(k) })
	case api.RxAlt:
		return slices.ContainsFunc(x.Kids, mayBeEmpty)
	case api.RxRepeat:
		return x.Min == 0 || mayBeEmpty(x.Kids[0])
	case api.RxGroup:
		return mayBeEmpty(x.Kids[0])
	}
	return true
}

// P10.2 and P10.4: the library's own reading of the same pattern takes the same texts, and finds its groups in the same places.
func TestGroupsByLibrary(t *testing.T) {
	t.Parallel()
	texts := append(textsOver("aé\n", 3), textsOver("ab", 5)...)
	texts = append(texts, "_a", "a_", "é_", "😀", "a😀", "ba\na", "bé", "a\xff", "\xff")
	r := someRand()
	known, same := 0, 0
	all := smallTrees()
	for i := range 6000 {
		all = append(all, someTree(r, 2+i%3))
	}
	for _, x := range all {
		pattern, e := rxtree.Show(x)
		if e != api.OK || rxprog.Size(x) > 300 {
			continue
		}
		library, err := regexp.Compile(`\A(?:` + pattern + `)\z`)
		if err != nil {
			continue
		}
		known++
		regex := compiled(t, pattern)
		for _, s := range texts {
			want := library.FindStringSubmatchIndex(s)
			if !utf8.ValidString(s) {
				want = nil
			}
			if regex.Match(s) != (want != nil) {
				t.Fatalf("%s, %q: the library says %v", told(x), s, want)
			}
			if got := regex.Groups(s); want != nil && !starsOverNothing(x) {
				same++
				if !slices.Equal(got, want) {
					t.Fatalf("%s, %q: %v, the library says %v", told(x), s, got, want)
				}
			}
		}
	}
	if known < 6000 || same < 30000 {
		t.Errorf("%d trees are known to the library, %d findings", known, same)
	}
}

// P10.5: a quoted text matches itself, and no other.
func TestQuoted(t *testing.T) {
	t.Parallel()
	var texts []string
	for b := range 128 {
		texts = append(texts, string(rune(b)), "a"+string(rune(b)), string(rune(b))+string(rune(b))+"x")
	}
	special := `\.+*?()|[]{}^$-,:=!<>#&~/'"` + "` \n\t\x00aQEdwsbBAzPimsUx019_"
	r := someRand()
	for range 3000 {
		var s strings.Builder
		for range r.IntN(8) {
			s.WriteByte(special[r.IntN(len(special))])
		}
		texts = append(texts, s.String())
	}
	texts = append(texts, "", special, "é", "日本語", "😀", "\U0010FFFF", "\uFFFD", `\Q.\E`, `(?i)a`, `a{2}`, `[[:alpha:]]`, `(?P<x>y)`, "$1", strings.Repeat("a", api.MaxPattern), strings.Repeat(".", api.MaxPattern/2))
	for _, s := range texts {
		checkQuoted(t, s, texts)
	}
	for _, s := range []string{strings.Repeat("a", api.MaxPattern+1), strings.Repeat(".", api.MaxPattern/2+1)} {
		if _, e := rx.Compile(rxtree.Quote(s)); e != api.ErrLong {
			t.Errorf("a quoted text that is too long: %d", e)
		}
	}
}

func checkQuoted(t *testing.T, s string, others []string) {
	t.Helper()
	r := compiled(t, rxtree.Quote(s))
	if !r.Match(s) || r.Count() != 0 || !slices.Equal(r.Groups(s), []int{0, len(s)}) {
		t.Fatalf("the quoted text %.100q doesn't match itself", s)
	}
	for _, o := range others {
		if o != s && r.Match(o) {
			t.Fatalf("the quoted text %.100q matches %.100q", s, o)
		}
	}
	near := []string{s + s + "a", s + "\n", "\n" + s, s + "\xff", "\xff" + s, strings.ToUpper(s), strings.ToLower(s), strings.ToTitle(s), rxtree.Quote(s)}
	for i := range s {
		near = append(near, s[:i]+s[i+1:], s[:i]+"x"+s[i+1:], s[:i], s[i:], s[:i]+"x"+s[i:], s[:i]+string(s[i]^1)+s[i+1:])
		if i > 40 {
			break
		}
	}
	for _, o := range near {
		if o != s && r.Match(o) {
			t.Fatalf("the quoted text %.100q matches %.100q", s, o)
		}
	}
}

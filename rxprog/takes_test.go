package rxprog_test

import (
	"regexp"
	"slices"
	"testing"

	"weir/api"
	"weir/rxprog"
	"weir/rxtree"
)

// textsOver: all texts of these runes up to so many of them.
func textsOver(runes string, most int) []string {
	out := []string{""}
	for from := 0; most > 0; most-- {
		to := len(out)
		for _, s := range out[from:to] {
			for _, r := range runes {
				out = append(out, s+string(r))
			}
		}
		from = to
	}
	return out
}

// checkTakes: the program of a tree takes just the texts that the tree matches; how many it takes.
func checkTakes(t *testing.T, x api.Rx, texts []string) int {
	t.Helper()
	p := compiled(t, x)
	n := 0
	for _, s := range texts {
		want := matches(x, s)
		if takes(p, s) != want {
			t.Fatalf("%s, %q: the tree says %v", told(x), s, want)
		}
		if want {
			n++
		}
	}
	return n
}

// P9.4: small trees of each kind, and all short texts of runes that tell them apart, some of more bytes than one.
func TestTakesSmallTrees(t *testing.T) {
	t.Parallel()
	texts := append(textsOver("aé\n_", 3), textsOver("ab", 4)...)
	texts = append(texts, "😀", "a😀a", "😀\n😀", "\x00", "\U0010FFFF", "\uD7FF\uE000", "a\r\nb", "éa", "aé", "日本", "0Z z9", "\n\n\n\n")
	taken := 0
	for _, x := range smallTrees() {
		taken += checkTakes(t, x, texts)
	}
	if taken < 10000 {
		t.Errorf("%d texts are taken", taken)
	}
}

// P9.4: trees made at random.
func TestTakesManyTrees(t *testing.T) {
	t.Parallel()
	texts := append(textsOver("abé\n", 3), textsOver("a_", 5)...)
	r := someRand()
	programs, some := 0, 0
	for i := range 3000 {
		x := someTree(r, 2+i%3, []int{0, 0, 1, 2, 3})
		if rxprog.Size(x) > 400 {
			continue
		}
		programs++
		if checkTakes(t, x, texts) > 0 {
			some++
		}
	}
	if programs < 2000 || some < 600 {
		t.Errorf("%d programs, %d take something", programs, some)
	}
}

// P9.4: each kind of place, at each place of texts with lines, words and runes of more bytes than one.
func TestTakesPlaces(t *testing.T) {
	t.Parallel()
	anything := rep(0, -1, class(0, runesEnd))
	texts := append(textsOver("a\né ", 4), "_", "0", "9", "A", "Z", "z", "/", ":", "@", "[", "`", "{", "aZ", "é_", "_é", "\r\n", "\v", "日a", "a日")
	for _, place := range places() {
		taken := 0
		for _, x := range []api.Rx{
			place, cat(anything, place, anything), cat(lit('a'), place, anything), cat(anything, place, lit('a')), cat(anything, place, lit('é'), place, anything), cat(anything, lit('\n'), place, lit('\n')), cat(place, anything, place),
			rep(0, -1, cat(place, class(0, runesEnd))), alt(cat(place, lit('a'), anything), cat(lit('é'), anything, place)), rep(2, 3, place), cat(rep(0, 0, place), lit('_')), rep(2, -1, cat(lit('a'), rep(0, 1, place), rep(0, -1, lit(' ')))),
		} {
			taken += checkTakes(t, x, texts)
		}
		if taken == 0 {
			t.Errorf("kind %d: nothing is taken", place.Kind)
		}
	}
	for _, c := range []struct {
		pattern, text string
		want          bool
	}{
		{`^a$`, "a", true}, {`a^`, "a", false}, {`$a`, "a", false}, {"(?m)a$\n^b", "a\nb", true}, {"a$\nb", "a\nb", false}, {"(?m)a^\n", "a\n", false}, {"(?m)\n^", "\n", true}, {"(?m)$\n$", "\n", true}, {"\n^", "\n", false},
		{`\ba\b`, "a", true}, {`é\bé`, "éé", false}, {`é\Bé`, "éé", true}, {`é\ba`, "éa", true}, {`a\bé`, "aé", true}, {`a\ba`, "aa", false}, {`\b`, "", false}, {`\B`, "", true}, {`_\b `, "_ ", true}, {`\Bé\B`, "é", true}, {`\bé`, "é", false},
	} {
		x := tree(t, c.pattern)
		if matches(x, c.text) != c.want || takes(compiled(t, x), c.text) != c.want {
			t.Errorf("%q, %q: %v, %v", c.pattern, c.text, matches(x, c.text), takes(compiled(t, x), c.text))
		}
	}
}

// P9.4: the library's own reading of the same pattern takes the same texts.
func TestTakesByLibrary(t *testing.T) {
	t.Parallel()
	texts := append(textsOver("aé\n", 3), "b", "ab", "aab", "abab", "_a", "a_", "é_", "😀", "a😀", "ba\na", "bé")
	r := someRand()
	known := 0
	all := smallTrees()
	for i := range 3000 {
		all = append(all, someTree(r, 2+i%3, []int{0, 1, 2, 3}))
	}
	for _, x := range all {
		s, e := rxtree.Show(x)
		if e != api.OK || rxprog.Size(x) > 300 {
			continue
		}
		library, err := regexp.Compile(`\A(?:` + s + `)\z`)
		if err != nil {
			continue
		}
		known++
		p := compiled(t, x)
		for _, text := range texts {
			if takes(p, text) != library.MatchString(text) {
				t.Fatalf("%s, %q: the program says %v", told(x), text, takes(p, text))
			}
		}
	}
	if known < 3000 {
		t.Errorf("%d trees are known to the library", known)
	}
}

// P9.4: repeats at their bounds take just so many.
func TestTakesCounts(t *testing.T) {
	t.Parallel()
	for _, c := range []struct {
		x    api.Rx
		want []int // how many a
	}{
		{rep(3, 3, lit('a')), []int{3}}, {rep(2, 4, lit('a')), []int{2, 3, 4}}, {lazy(2, 4, lit('a')), []int{2, 3, 4}}, {rep(0, 0, lit('a')), []int{0}}, {rep(9, -1, lit('a')), []int{9, 10, 11}}, {lazy(10, -1, lit('a')), []int{10, 11}}, {rep(2, 2, rep(2, 3, lit('a'))), []int{4, 5, 6}}, {rep(0, 2, rep(3, 3, lit('a'))), []int{0, 3, 6}}, {rep(0, -1, rep(4, 4, lit('a'))), []int{0, 4, 8}}, {rep(1, 1, class()), nil}, {rep(0, -1, class()), []int{0}},
	} {
		p := compiled(t, c.x)
		for n, s := range slices.Repeat([]string{""}, 12) {
			for range n {
				s += "a"
			}
			if want := slices.Contains(c.want, n); takes(p, s) != want || matches(c.x, s) != want {
				t.Errorf("%s, %d times: not %v", told(c.x), n, want)
			}
		}
	}
}

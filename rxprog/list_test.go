package rxprog_test

import (
	"slices"
	"strings"
	"testing"

	"weir/api"
	"weir/rxprog"
)

// checkList: Words answers these, and true.
func checkList(t *testing.T, x api.Rx, want ...string) {
	t.Helper()
	if got, ok := rxprog.Words(x); !ok || !slices.Equal(got, want) {
		t.Errorf("Words of %s = %.40q, %v, not %.40q", told(x), got, ok, want)
	}
}

// checkNoList: Words answers none, and false.
func checkNoList(t *testing.T, x api.Rx) {
	t.Helper()
	if got, ok := rxprog.Words(x); ok || len(got) != 0 {
		t.Errorf("Words of %s = %.40q, %v", told(x), got, ok)
	}
}

// P9.6: the chapter's examples.
func TestWordsExamples(t *testing.T) {
	checkList(t, tree(t, "a|b|ab?"), "a", "ab", "b")
	checkList(t, tree(t, "[a-c]{0,2}"), "", "a", "aa", "ab", "ac", "b", "ba", "bb", "bc", "c", "ca", "cb", "cc")
	checkNoList(t, tree(t, "a*"))
	checkList(t, tree(t, "(?:)*"), "")
	checkList(t, tree(t, `a*[^\x{0}-\x{10ffff}]`))
	checkList(t, tree(t, `(?:[^\x{0}-\x{10ffff}])*`), "")
	checkNoList(t, tree(t, "[a-z]{2}"))
	checkNoList(t, tree(t, "^a"))
}

// P9.6: each kind of node, and ways that meet in one text.
func TestWordsKinds(t *testing.T) {
	for pattern, want := range map[string]string{ // the words with a blank between
		"a": "a", "é": "é", "[ab]": "a b", "[^\\x{0}-`c-\\x{10ffff}]": "a b", "ab": "ab", "a|b": "a b", "b|a": "a b", "a|a": "a", "(a|b)c": "ac bc", "(?P<n>a)": "a", "a?": " a", "a??b": "ab b", "a{3}": "aaa", "a{1,3}": "a aa aaa", "a{0,0}": "", "a{0}b": "b", "": "", "|": "", "|a": " a", "(?:|a)(?:|a)": " a aa",
		"a?a?a?": " a aa aaa", "(?:a|aa)(?:a|aa)": "aa aaa aaaa", "(?:ab|a)(?:bc|c)": "abbc abc ac", "(?:ab?)(?:b?c)": "abbc abc ac", "(?:a|b){2}": "aa ab ba bb", "(?:a?){3}": " a aa aaa", "(?:ab){2,3}": "abab ababab", "(?:a{2}){2}": "aaaa", "(?:a{0,2}){2}": " a aa aaa aaaa", "(?:)+": "", "(?:){1000}": "", "(?:(?:)*)*": "", "(?:a{0})*": "", "(?:a{0}|){5,}": "",
		"aé|a|b|日|😀": "a aé b 日 😀", "B|a|_|A|Z|z|é": "A B Z _ a z é", "ab|a|abc|b": "a ab abc b", "(?i)ab": "AB Ab aB ab", "[a-c][x-y]": "ax ay bx by cx cy",
	} {
		checkList(t, tree(t, pattern), strings.Split(want, " ")...)
	}
	for _, pattern := range []string{"a*", "a+", "a{2,}", "(?:ab)*", "(?:a|)*", "a*b", "ba*", "a*|b", "(a+)", "(?:a*){0,1}", "(?:a*)*", "(?:(?:a?)*)", ".", "[^a]", ".|a", "a.b", "(?:a|b)+", ".{0,1}", "[a-z]{2}", "(?:[a-z]?){2}"} {
		checkNoList(t, tree(t, pattern))
	}
}

// P9.6: a part that matches nothing at all makes the whole nothing, however endless another part is; and where it may be left out, it leaves the rest.
func TestWordsOfNothing(t *testing.T) {
	none, endless, a := class(), rep(0, -1, lit('a')), lit('a')
	for _, x := range []api.Rx{
		none, lit(0xD800), lit(0xDFFF), class(0xD800, 0xDFFF), class(0xD800, 0xD800, 0xDFFF, 0xDFFF), cat(none, a), cat(a, none), cat(endless, none), cat(none, endless), cat(a, endless, lit(0xDABC), endless, a), cat(endless, class(0, runesEnd), rep(1, -1, none), a), alt(none, none), alt(none, cat(a, none)), rep(1, 1, none), rep(1, -1, none), rep(2, 5, none), rep(1000, 1000, none), group(1, "", none), rep(3, 3, cat(endless, none)), rep(1, -1, cat(endless, none)), cat(alt(endless, endless), group(1, "n", alt(none, cat(none, a)))), cat(none, none), alt(cat(class(0, runesEnd), none), none),
	} {
		checkList(t, x)
	}
	for _, x := range []api.Rx{rep(0, -1, none), rep(0, 1, none), rep(0, 1000, none), rep(0, 0, none), lazy(0, -1, cat(endless, none)), rep(0, 5, cat(a, none)), cat(rep(0, -1, none), rep(0, 1, lit(0xD900))), alt(none, empty()), rep(5, -1, rep(0, -1, none)), rep(0, 0, endless), rep(0, 0, class(0, runesEnd))} {
		checkList(t, x, "")
	}
	checkList(t, alt(none, a, cat(endless, none)), "a")
	checkList(t, cat(rep(0, -1, none), a, rep(0, 0, endless)), "a")
	checkList(t, alt(cat(endless, none), rep(2, 3, alt(none, a))), "aa", "aaa")
	checkNoList(t, alt(none, endless))
	checkNoList(t, cat(rep(0, -1, none), endless))
	checkNoList(t, alt(cat(endless, none), endless))
}

// P9.6: numbers from 0xD800 to 0xDFFF stand in no text, those on both sides do.
func TestWordsOfNoRunes(t *testing.T) {
	checkList(t, class(0xD7FF, 0xE000), "\uD7FF", "\uE000")
	checkList(t, class(0xD7FE, 0xD801), "\uD7FE", "\uD7FF")
	checkList(t, class(0xDFFE, 0xE001), "\uE000", "\uE001")
	checkList(t, class('a', 'b', 0xD800, 0xDFFF), "a", "b")
	checkList(t, alt(lit(0xD800), lit('a'), lit(0xDBFF)), "a")
	checkList(t, cat(class('a', 'a', 0xDC00, 0xDC00), lit('b')), "ab")
	checkList(t, class(0xD800-api.MaxWords, 0xDFFF), slices.Collect(func(yield func(string) bool) {
		for r := rune(0xD800 - api.MaxWords); r < 0xD800 && yield(string(r)); r++ {
		}
	})...)
	checkNoList(t, class(0xD7FF-api.MaxWords, 0xDFFF))
	checkNoList(t, class(0xD800, 0xDFFF+api.MaxWords+1))
	if got, ok := rxprog.Words(class(0xD800, 0xDFFF+api.MaxWords)); !ok || len(got) != api.MaxWords {
		t.Errorf("%d words, %v", len(got), ok)
	}
	checkList(t, class(runesEnd-1, runesEnd), "\U0010FFFE", "\U0010FFFF")
	checkList(t, class(0, 0, 0xFFFD, 0xFFFD, runesEnd, runesEnd), "\x00", "\uFFFD", "\U0010FFFF")
}

// P9.6: MaxWords texts are told, one more isn't, in whatever way they are made; ways that meet count once.
func TestWordsLimit(t *testing.T) {
	a := lit('a')
	for n := api.MaxWords - 2; n < api.MaxWords+3; n++ {
		end := 'A' + rune(n) - 1
		var runes []api.Rx
		for r := 'A'; r <= end; r++ {
			runes = append(runes, lit(r))
		}
		for i, x := range []api.Rx{
			class('A', end), alt(runes...), rep(0, n-1, a), lazy(3, n+2, a), alt(rep(0, 9, a), rep(5, n-1, a)), cat(class('A', end), a), cat(rep(5, 5, a), class('A', end), rep(7, 7, lit('b'))), group(1, "", class('A', end)), rep(1, 1, class('A', end)),
			alt(class('A', end-1), cat(lit(end), lit(end))), cat(rep(0, n/2, a), rep(0, n-1-n/2, a)), alt(append(runes, runes...)...), alt(empty(), class('A', end-1)), rep(0, 1, class('A', end-1)), alt(class('A', end), class('A', 'Z'), lit('B')), class('A', 'C', 'E', end+1), rep(0, n-1, alt(a, a)), cat(class('A', end), rep(0, -1, empty()), rep(0, -1, class())), alt(class('A', end), cat(rep(0, -1, a), class())),
		} {
			got, ok := rxprog.Words(x)
			if n <= api.MaxWords && (!ok || len(got) != n || !slices.IsSorted(got)) || n > api.MaxWords && (ok || len(got) != 0) {
				t.Errorf("tree %d of %d words: %d, %v", i, n, len(got), ok)
			}
		}
	}
	for _, c := range []struct {
		x    api.Rx
		want int
	}{
		{rep(6, 6, alt(a, lit('b'))), 64}, {rep(2, 2, class('a', 'h')), 64}, {rep(3, 3, class('a', 'd')), 64}, {cat(class('a', 'd'), class('a', 'p')), 64}, {rep(0, 5, alt(a, lit('b'))), 63}, {rep(0, 7, class('a', 'b')), -1}, {cat(class('a', 'e'), class('a', 'm')), -1}, {rep(7, 7, rep(0, 9, a)), 64}, {rep(63, 63, rep(0, 1, a)), 64}, {rep(64, 64, rep(0, 1, a)), -1}, {rep(1000, 1000, rep(0, 1, a)), -1}, {rep(0, 1, rep(6, 6, alt(a, lit('b')))), -1},
		{rep(32, 63, alt(a, a)), 32}, {rep(937, 1000, a), 64}, {rep(936, 1000, a), -1}, {rep(0, 63, rep(100, 100, a)), 64}, {rep(0, 64, rep(100, 100, a)), -1}, {rep(1000, 1000, rep(9, 9, a)), 1}, {rep(100, 100, cat(many(90, a)...)), 1},
	} {
		got, ok := rxprog.Words(c.x)
		if ok != (c.want >= 0) || len(got) != max(c.want, 0) {
			t.Errorf("Words of %s: %d, %v, not %d", told(c.x), len(got), ok, c.want)
		}
	}
}

// P9.6: a node that asks for a place bars the list, wherever it stands.
func TestWordsWithPlaces(t *testing.T) {
	a := lit('a')
	for _, place := range places() {
		for _, x := range []api.Rx{place, cat(a, place), cat(place, a), alt(a, place), alt(place, a), group(1, "", place), rep(0, 0, place), rep(1, 1, place), rep(0, 0, cat(a, place)), cat(class(), place), cat(rep(0, 0, alt(a, group(1, "n", place))), a), rep(0, -1, cat(place, class()))} {
			checkNoList(t, x)
		}
	}
}

// P9.6: no list of a tree that isn't valid or too big, though it may match one text alone.
func TestWordsOfWrongTrees(t *testing.T) {
	for _, x := range wrongTrees() {
		checkNoList(t, x)
		checkNoList(t, cat(lit('a'), x))
		checkNoList(t, rep(0, 0, x))
	}
	for _, s := range []shape{
		{"one text", func(n int) api.Rx {
			return cat(append(many(9, rep(1000, 1000, lit('a'))), many(n-9001, lit('b'))...)...)
		}},
		{"nothing", func(n int) api.Rx {
			return cat(append(many(9, rep(1000, 1000, class())), many(n-9001, lit('b'))...)...)
		}},
		{"the empty text", func(n int) api.Rx {
			return cat(append(many(9, rep(0, 1000, empty())), many((n-9001)/2, rep(0, -1, empty()))...)...)
		}},
	} {
		for _, n := range []int{api.MaxInst - 1, api.MaxInst, api.MaxInst + 1, api.MaxInst + 2} {
			x := s.make(n)
			size := sizeByWords(x)
			if got, ok := rxprog.Words(x); ok != (size <= api.MaxInst) || len(got) > 1 {
				t.Errorf("%s, size %d: %d words, %v", s.name, size, len(got), ok)
			}
		}
	}
	thousand := func(x api.Rx) api.Rx { return rep(1000, 1000, x) }
	checkNoList(t, nested(api.MaxRxDepth, lit('a'), thousand))
	checkNoList(t, nested(api.MaxRxDepth, class(), thousand))
	checkList(t, nested(api.MaxRxDepth, empty(), thousand), "")
	checkList(t, rep(0, 0, nested(api.MaxRxDepth, lit('a'), thousand)), "")
	checkList(t, cat(lit('a'), rep(0, 0, nested(api.MaxRxDepth-1, class('a', 'z'), thousand)), lit('b')), "ab")
}

// P9.6: long words and long rows are told in little time.
func TestWordsOfGreatTrees(t *testing.T) {
	t.Parallel()
	first, long := class('A', 'A'+api.MaxWords-1), rep(1000, 1000, lit('😀'))
	for name, x := range map[string]api.Rx{
		"a row of runes":      cat(append([]api.Rx{first}, many(8000, lit('😀'))...)...),
		"the choice last":     cat(append(many(8000, lit('😀')), first)...),
		"rows in rows":        nested(api.MaxRxDepth, cat(first, long, long, long, long, long, long, long, long), func(x api.Rx) api.Rx { return cat(x, lit('é')) }),
		"repeats of once":     nested(api.MaxRxDepth-1, cat(long, long, long, long, long, long, long, long, first), func(x api.Rx) api.Rx { return rep(1, 1, x) }),
		"alternatives within": nested(api.MaxRxDepth, cat(long, long, long, long, long, long, long, long, first), func(x api.Rx) api.Rx { return alt(class(), x) }),
	} {
		got, ok := rxprog.Words(x)
		if !ok || len(got) != api.MaxWords || len(got[0]) < 32000 || !slices.IsSorted(got) {
			t.Errorf("%s: %d, %v", name, len(got), ok)
		}
	}
	checkNoList(t, cat(append(many(60, rep(0, 1, lit('a'))), many(4, cat(long, class('a', 'b')))...)...))
}

// P9.6: by a walk through the program with all its ways at once, over small trees and trees made at random.
func TestWordsByWords(t *testing.T) {
	t.Parallel()
	var all []api.Rx
	for _, x := range smallTrees() {
		all = append(all, withoutPlaces(x))
	}
	r := someRand()
	for i := range 12000 {
		all = append(all, withoutPlaces(someTree(r, 1+i%5, []int{0, 0, 1, 1, 2, 3})))
	}
	some, none, barred := 0, 0, 0
	for _, x := range all {
		if sizeByWords(x) > 600 {
			continue
		}
		want, wantOK, known := listByWords(x)
		if !known {
			continue
		}
		got, ok := rxprog.Words(x)
		if ok != wantOK || !slices.Equal(got, want) {
			t.Fatalf("Words of %s = %.40q, %v, not %.40q, %v", told(x), got, ok, want, wantOK)
		}
		switch {
		case !ok:
			barred++
		case len(got) == 0:
			none++
		default:
			some++
		}
	}
	if some < 2000 || none < 500 || barred < 1000 {
		t.Errorf("%d lists, %d empty ones, %d without", some, none, barred)
	}
}

// withoutPlaces: the tree with the empty text in the place of each node that asks for a place.
func withoutPlaces(x api.Rx) api.Rx {
	if x.Kind >= api.RxBegin {
		return empty()
	}
	x.Kids = slices.Clone(x.Kids)
	for i := range x.Kids {
		x.Kids[i] = withoutPlaces(x.Kids[i])
	}
	return x
}

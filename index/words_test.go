package index_test

import (
	"regexp"
	"slices"
	"sort"
	"testing"
	"unicode/utf8"

	"weir/api"
	"weir/index"
	"weir/labels"
)

// The chapter's words, written down a second time and in another way, to hold the package against: all goes through all sets.

var labelName = regexp.MustCompile(`\A[a-zA-Z_][0-9a-zA-Z_]*\z`)

// set: labels from names and values in turns.
func set(texts ...string) []api.Label {
	var ls []api.Label
	for two := range slices.Chunk(texts, 2) {
		ls = append(ls, api.Label{Name: two[0], Value: two[1]})
	}
	return ls
}

func wordsValid(ls []api.Label) bool {
	for i, l := range ls {
		if !labelName.MatchString(l.Name) || l.Value == "" || !utf8.ValidString(l.Value) || i > 0 && l.Name <= ls[i-1].Name {
			return false
		}
	}
	return true
}

// wordsNew: the error of a list of sets.
func wordsNew(sets [][]api.Label) api.Errno {
	for _, ls := range sets {
		if !wordsValid(ls) {
			return api.ErrLabels
		}
	}
	return 0
}

func wordsGet(ls []api.Label, name string) string {
	for _, l := range ls {
		if l.Name == name {
			return l.Value
		}
	}
	return ""
}

func wordsIds(sets [][]api.Label, name, value string) []int {
	var ids []int
	for id, ls := range sets {
		if wordsGet(ls, name) == value {
			ids = append(ids, id)
		}
	}
	return ids
}

// each: texts sorted, each once.
func each(texts []string) []string {
	sort.Strings(texts)
	var made []string
	for i, text := range texts {
		if i == 0 || text != texts[i-1] {
			made = append(made, text)
		}
	}
	return made
}

func wordsNames(sets [][]api.Label) []string {
	var texts []string
	for _, l := range slices.Concat(sets...) {
		texts = append(texts, l.Name)
	}
	return each(texts)
}

func wordsValues(sets [][]api.Label, name string) []string {
	var texts []string
	for _, l := range slices.Concat(sets...) {
		if l.Name == name {
			texts = append(texts, l.Value)
		}
	}
	return each(texts)
}

// wordsFind: a walk over all sets.
func wordsFind(sets [][]api.Label, ms []api.Matcher) ([]int, api.Errno) {
	f, _, e := labels.Compile(ms)
	if e != 0 {
		return nil, e
	}
	var ids []int
	for id, ls := range sets {
		if f.Holds(ls) {
			ids = append(ids, id)
		}
	}
	return ids, 0
}

// wordsList: the numbers of both lists that are wanted, put one by one where they belong.
func wordsList(a, b []int, wanted func(inA, inB bool) bool) []int {
	var made []int
	for _, n := range slices.Concat(b, a) {
		at := 0
		for at < len(made) && made[at] < n {
			at++
		}
		if again := at < len(made) && made[at] == n; !again && wanted(slices.Contains(a, n), slices.Contains(b, n)) {
			made = slices.Insert(made, at, n)
		}
	}
	return made
}

func wordsAnd(a, b []int) []int {
	return wordsList(a, b, func(inA, inB bool) bool { return inA && inB })
}

func wordsOr(a, b []int) []int {
	return wordsList(a, b, func(inA, inB bool) bool { return inA || inB })
}

func wordsWithout(a, b []int) []int {
	return wordsList(a, b, func(inA, inB bool) bool { return inA && !inB })
}

// made: the index of sets that have no fault.
func made(t *testing.T, sets [][]api.Label) *index.Index {
	t.Helper()
	x, e := index.New(sets)
	if x == nil || e != 0 || x.Len() != len(sets) {
		t.Fatalf("New(%q) = %d sets, %d", sets, x.Len(), e)
	}
	return x
}

// checkNew: what New answers, and then what the index tells of itself, of the names and values of the sets and of those it has no label of.
func checkNew(t *testing.T, sets [][]api.Label) {
	t.Helper()
	x, e := index.New(sets)
	if want := wordsNew(sets); e != want || (x == nil) != (want != 0) {
		t.Fatalf("New(%q) = %v, %d; want %d", sets, x, e, want)
	}
	if e != 0 {
		return
	}
	if n := x.Len(); n != len(sets) {
		t.Fatalf("Len of %q is %d", sets, n)
	}
	if got := x.Names(); !slices.Equal(got, wordsNames(sets)) {
		t.Fatalf("Names of %q: %q", sets, got)
	}
	for _, name := range append(wordsNames(sets), "none", "", "a", "\xff") {
		if got := x.Values(name); !slices.Equal(got, wordsValues(sets, name)) {
			t.Fatalf("Values(%q) of %q: %q", name, sets, got)
		}
		for _, value := range append(wordsValues(sets, name), "none", "", "1", "\xff") {
			checkIds(t, x, sets, name, value)
		}
	}
}

func checkIds(t *testing.T, x *index.Index, sets [][]api.Label, name, value string) {
	t.Helper()
	if got := x.Ids(name, value); !slices.Equal(got, wordsIds(sets, name, value)) {
		t.Fatalf("Ids(%q, %q) of %q: %v", name, value, sets, got)
	}
}

func checkFind(t *testing.T, x *index.Index, sets [][]api.Label, ms []api.Matcher) []int {
	t.Helper()
	got, e := x.Find(ms)
	if want, wantE := wordsFind(sets, ms); e != wantE || !slices.Equal(got, want) {
		t.Fatalf("Find(%+v) of %q = %v, %d; want %v, %d", ms, sets, got, e, want, wantE)
	}
	return got
}

func checkLists(t *testing.T, a, b []int) {
	t.Helper()
	for _, c := range []struct {
		name      string
		got, want []int
	}{
		{"And", index.And(a, b), wordsAnd(a, b)},
		{"Or", index.Or(a, b), wordsOr(a, b)},
		{"Without", index.Without(a, b), wordsWithout(a, b)},
	} {
		if !slices.Equal(c.got, c.want) {
			t.Fatalf("%s(%v, %v) = %v; want %v", c.name, a, b, c.got, c.want)
		}
	}
}

package index_test

import (
	"fmt"
	"slices"
	"testing"

	"weir/api"
	"weir/index"
)

// example: the chapter's sets.
func example() [][]api.Label {
	return [][]api.Label{set("__name__", "up", "job", "a"), set("job", "b"), set("__name__", "up", "job", "b"), nil}
}

// P18.1: lists of sets that are taken, and how many sets an index then has.
func TestNewTakes(t *testing.T) {
	for _, sets := range [][][]api.Label{
		nil,
		{},
		{nil},
		{{}},
		{nil, {}, nil},
		example(),
		{set("a", "1"), set("a", "1")},
		{set("a", "1"), set("a", "1"), nil, set("a", "1"), nil},
		{set("__name__", "no metric's name")},
		{set("_", "\x00", "a", "日本")},
	} {
		if x, e := index.New(sets); x == nil || e != 0 || x.Len() != len(sets) {
			t.Errorf("New(%q) = %v, %d", sets, x, e)
		}
		checkNew(t, sets)
	}
}

// P18.1: a list that is no label set, alone, first, between and last.
func TestNewRefuses(t *testing.T) {
	for _, wrong := range wrongSets() {
		for _, sets := range [][][]api.Label{
			{wrong},
			{wrong, set("a", "1")},
			{set("a", "1"), wrong, nil},
			{set("a", "1"), nil, set("b", "2"), wrong},
			{nil, wrong},
			{wrong, wrong},
		} {
			if x, e := index.New(sets); x != nil || e != api.ErrLabels {
				t.Errorf("New(%q) = %v, %d", sets, x, e)
			}
		}
	}
}

// P18.2: the chapter's examples, and the value "" of a name that some sets have, all have, none has.
func TestIdsExamples(t *testing.T) {
	x := made(t, example())
	y := made(t, [][]api.Label{set("a", "1", "b", "1"), set("a", "1"), set("a", "2", "b", "1"), set("a", "1", "b", "2")})
	for _, c := range []struct {
		x           *index.Index
		name, value string
		want        []int
	}{
		{x, "job", "b", []int{1, 2}},
		{x, "job", "a", []int{0}},
		{x, "job", "", []int{3}},
		{x, "job", "c", nil},
		{x, "__name__", "up", []int{0, 2}},
		{x, "__name__", "", []int{1, 3}},
		{x, "zone", "", []int{0, 1, 2, 3}},
		{x, "zone", "x", nil},
		{x, "", "", []int{0, 1, 2, 3}},
		{x, "", "b", nil},
		{x, "\xff", "", []int{0, 1, 2, 3}},
		{x, "\xff", "\xff", nil},
		{x, "job", "\xff", nil},
		{x, "job\x00", "", []int{0, 1, 2, 3}},
		{x, "jo", "b", nil},
		{x, "JOB", "b", nil},
		{x, "a", "job", nil},
		{x, "b", "job", nil},
		{y, "a", "", nil},
		{y, "a", "1", []int{0, 1, 3}},
		{y, "a", "2", []int{2}},
		{y, "b", "", []int{1}},
		{y, "b", "1", []int{0, 2}},
		{y, "1", "", []int{0, 1, 2, 3}},
	} {
		if got := c.x.Ids(c.name, c.value); !slices.Equal(got, c.want) {
			t.Errorf("Ids(%q, %q) = %v; want %v", c.name, c.value, got, c.want)
		}
	}
}

// P18.3: the chapter's examples; sorted byte by byte, each once, and nothing for a name that no set has.
func TestNamesAndValuesExamples(t *testing.T) {
	x := made(t, example())
	y := made(t, [][]api.Label{
		set("Z", "b", "_", "é", "a", "10"),
		set("a", "9", "ab", "1"),
		set("A", "1", "a", "1", "a0", "1"),
		set("a", "é"),
		set("a", "\x00"),
		set("a", "1"),
		set("a", "Z", "ab", "1"),
	})
	for _, c := range []struct {
		what      string
		got, want []string
	}{
		{"Names", x.Names(), []string{"__name__", "job"}},
		{"Values of job", x.Values("job"), []string{"a", "b"}},
		{"Values of __name__", x.Values("__name__"), []string{"up"}},
		{"Values of zone", x.Values("zone"), nil},
		{"Values of nothing", x.Values(""), nil},
		{"Values of no text", x.Values("\xff"), nil},
		{"Values of a value", x.Values("up"), nil},
		{"Names of many", y.Names(), []string{"A", "Z", "_", "a", "a0", "ab"}},
		{"Values of a", y.Values("a"), []string{"\x00", "1", "10", "9", "Z", "é"}},
		{"Values of ab", y.Values("ab"), []string{"1"}},
		{"Names of no sets", made(t, nil).Names(), nil},
		{"Names of empty sets", made(t, [][]api.Label{nil, {}}).Names(), nil},
		{"Values of no sets", made(t, nil).Values("a"), nil},
	} {
		if !slices.Equal(c.got, c.want) {
			t.Errorf("%s: %q; want %q", c.what, c.got, c.want)
		}
	}
}

// P18.1 to P18.3: every small list of small sets, and every place of a wrong one among them.
func TestEverySmallIndex(t *testing.T) {
	for _, sets := range small(smallSets(), 3) {
		checkNew(t, sets)
	}
	for _, sets := range small([][]api.Label{nil, set("a", "1"), set("a", ""), set("b", "1", "a", "1")}, 4) {
		checkNew(t, sets)
	}
}

// P18.1 to P18.3: lists of sets by chance.
func TestIndexByChance(t *testing.T) {
	c := newChance(1)
	for range 2000 {
		checkNew(t, c.sets(12, true))
	}
	for range 30 {
		sets := c.sets(300, false)
		checkNew(t, sets)
		x := made(t, sets)
		for _, name := range names() {
			for _, value := range values() {
				checkIds(t, x, sets, name, value)
			}
		}
	}
}

// P18.2 and P18.3: every byte as a name and in a value, asked of an index that has such a value.
func TestEachByte(t *testing.T) {
	var sets [][]api.Label
	for b := range 256 {
		sets = append(sets, set("a", string(rune(b))+"x"))
	}
	x := made(t, sets)
	for b := range 256 {
		one := string([]byte{byte(b)})
		checkIds(t, x, sets, "a", one)
		checkIds(t, x, sets, "a", one+"x")
		checkIds(t, x, sets, "a", string(rune(b))+"x")
		checkIds(t, x, sets, one, "")
		checkIds(t, x, sets, one, one)
		if got := x.Values(one); !slices.Equal(got, wordsValues(sets, one)) {
			t.Errorf("Values(%q): %q", one, got)
		}
	}
	if got := x.Values("a"); !slices.Equal(got, wordsValues(sets, "a")) {
		t.Errorf("Values of all runes below 256: %q", got)
	}
}

// P18.1: a nil index answers as that of no sets.
func TestNilIndex(t *testing.T) {
	var none *index.Index
	empty := made(t, nil)
	c := newChance(2)
	for _, x := range []*index.Index{none, empty} {
		if x.Len() != 0 || len(x.Names()) != 0 {
			t.Errorf("Len %d, Names %q", x.Len(), x.Names())
		}
		for _, name := range names() {
			for _, value := range values() {
				if ids := x.Ids(name, value); len(ids) != 0 || len(x.Values(name)) != 0 {
					t.Errorf("Ids(%q, %q) = %v, Values %q", name, value, ids, x.Values(name))
				}
			}
		}
		for range 500 {
			checkFind(t, x, nil, c.matchers(3, true))
		}
	}
	if _, e := none.Find([]api.Matcher{{Name: "a", Op: api.MatchRe, Value: "("}}); e != api.ErrRxBrackets {
		t.Errorf("Find of a nil index: %d", e)
	}
}

// P18.2 and P18.3: an index of many sets with many names, of which each id stands where it should.
func TestManySets(t *testing.T) {
	const n = 3000
	var sets [][]api.Label
	for i := range n {
		sets = append(sets, set("a", fmt.Sprint(i%7), fmt.Sprintf("n%d", i%5), fmt.Sprint(i)))
	}
	x := made(t, sets)
	for i := range n {
		if got := x.Ids(fmt.Sprintf("n%d", i%5), fmt.Sprint(i)); !slices.Equal(got, []int{i}) {
			t.Fatalf("set %d: %v", i, got)
		}
	}
	for k := range 7 {
		checkIds(t, x, sets, "a", fmt.Sprint(k))
		checkIds(t, x, sets, fmt.Sprintf("n%d", k), "")
	}
	if got := x.Values("n3"); len(got) != n/5 || !slices.IsSorted(got) {
		t.Errorf("%d values", len(got))
	}
}

package labels_test

import (
	"slices"
	"testing"

	"weir/api"
	"weir/labels"
)

func checkMake(t *testing.T, pairs []api.Label) {
	t.Helper()
	want, e := wordsMake(pairs)
	if got, err := labels.Make(pairs); err != e || !slices.Equal(got, want) {
		t.Fatalf("Make(%q) = %q, %d; want %q, %d", pairs, got, err, want, e)
	}
	if got := labels.Valid(pairs); got != wordsValid(pairs) {
		t.Fatalf("Valid(%q) = %t", pairs, got)
	}
}

// P16.1: the chapter's examples of Make, and the edges that its words name.
func TestMakeExamples(t *testing.T) {
	for _, c := range []struct {
		pairs, want []api.Label
		e           api.Errno
	}{
		{nil, nil, 0},
		{[]api.Label{}, nil, 0},
		{set("b", "2", "a", "1", "c", ""), set("a", "1", "b", "2"), 0},
		{set("a", ""), nil, 0},
		{set("a", "", "b", "", "__name__", ""), nil, 0},
		{set("c", "3", "b", "2", "a", "1"), set("a", "1", "b", "2", "c", "3"), 0},
		{set("a", "1", "__name__", "up", "A", "2", "Z", "3"), set("A", "2", "Z", "3", "__name__", "up", "a", "1"), 0},
		{set("ab", "1", "a", "2", "a_", "3", "a0", "4"), set("a", "2", "a0", "4", "a_", "3", "ab", "1"), 0},
		{set("__name__", "a b", "x", "\x00\"é"), set("__name__", "a b", "x", "\x00\"é"), 0},
		{set("a", "1", "0x", "1"), nil, api.ErrLabels},
		{set("a", "1", "a", ""), nil, api.ErrLabels},
		{set("a", "", "a", "1"), nil, api.ErrLabels},
		{set("a", "", "a", ""), nil, api.ErrLabels},
		{set("a", "1", "b", "2", "a", "1"), nil, api.ErrLabels},
		{set("", "1"), nil, api.ErrLabels},
		{set("", ""), nil, api.ErrLabels},
		{set("a:b", "1"), nil, api.ErrLabels},
		{set("é", "1"), nil, api.ErrLabels},
		{set("a\xff", "1"), nil, api.ErrLabels},
		{set("a", "\xff"), nil, api.ErrUTF},
		{set("a", "\xed\xa0\x80"), nil, api.ErrUTF},
		{set("0x", "\xff"), nil, api.ErrLabels},
		{set("a", "1", "a", "\xff"), nil, api.ErrLabels},
		{set("a", "\xff", "a", "1"), nil, api.ErrUTF},
		{set("a", "\xff", "0x", "1"), nil, api.ErrUTF},
		{set("0x", "1", "a", "\xff"), nil, api.ErrLabels},
		{set("b", "1", "a", "\xff", "b", "2"), nil, api.ErrUTF},
		{set("b", "1", "b", "2", "a", "\xff"), nil, api.ErrLabels},
	} {
		if got, e := labels.Make(c.pairs); e != c.e || !slices.Equal(got, c.want) {
			t.Errorf("Make(%q) = %q, %d; want %q, %d", c.pairs, got, e, c.want, c.e)
		}
		checkMake(t, c.pairs)
	}
}

// P16.1: lists that are label sets, and each way not to be one.
func TestValidExamples(t *testing.T) {
	for _, ls := range [][]api.Label{
		nil,
		{},
		set("a", "1"),
		set("_", "\x00"),
		set("A", "1", "B", "1", "__name__", "up", "_a", "é", "a", "1", "a0", "2", "aa", "3"),
		set("__name__", "no metric's name"),
	} {
		if !labels.Valid(ls) {
			t.Errorf("Valid(%q) = false", ls)
		}
	}
	for _, ls := range [][]api.Label{
		set("b", "1", "a", "1"),
		set("a", "1", "c", "1", "b", "1"),
		set("a", "1", "A", "1"),
		set("a", "1", "a", "1"),
		set("a", "1", "a", "2"),
		set("a", ""),
		set("a", "1", "b", ""),
		set("", "1"),
		set("0x", "1"),
		set("a", "1", "a:b", "1"),
		set("a", "\xff"),
		set("a", "1", "b", "\xc1\x81"),
		set("a", "1", "b\xff", "1"),
	} {
		if labels.Valid(ls) {
			t.Errorf("Valid(%q) = true", ls)
		}
	}
}

// P16.1: every small list, made and asked.
func TestMakeSmall(t *testing.T) {
	for _, pairs := range small(pairsOf([]string{"a", "b", "__name__", "0", "a:"}, []string{"1", "2", "", "\xff"}), 3) {
		checkMake(t, pairs)
	}
	for _, name := range names() {
		for _, value := range values() {
			checkMake(t, set(name, value))
			checkMake(t, set("b", "1", name, value))
		}
	}
}

// P16.1: every byte in a name, alone, ahead and behind.
func TestEachByteOfNames(t *testing.T) {
	for b := range 256 {
		one := string([]byte{byte(b)})
		for _, name := range []string{one, one + "a", "a" + one, "_" + one + "_"} {
			checkMake(t, set(name, "1"))
		}
		checkMake(t, set("a", one))
	}
}

// P16.1: pairs by chance, with slips and without; what Make takes is a label set, whatever the order of the pairs.
func TestMakeByChance(t *testing.T) {
	c := newChance(1)
	for i := range 20000 {
		pairs := c.pairs(14, i%2 == 0)
		checkMake(t, pairs)
		checkMake(t, c.list(3))
		made, e := labels.Make(pairs)
		if e != 0 {
			continue
		}
		if !labels.Valid(made) {
			t.Fatalf("Make(%q) = %q, which is no label set", pairs, made)
		}
		slices.Reverse(pairs)
		if again, e := labels.Make(pairs); e != 0 || !slices.Equal(again, made) {
			t.Fatalf("Make(%q) = %q, %d; the other way round %q", pairs, again, e, made)
		}
	}
}

func checkParts(t *testing.T, ls []api.Label, name, value string) {
	t.Helper()
	if got, want := labels.Get(ls, name), wordsGet(ls, name); got != want {
		t.Fatalf("Get(%q, %q) = %q; want %q", ls, name, got, want)
	}
	made, want := labels.With(ls, name, value), wordsWith(ls, name, value)
	if !slices.Equal(made, want) {
		t.Fatalf("With(%q, %q, %q) = %q; want %q", ls, name, value, made, want)
	}
	if got := labels.Get(made, name); got != value {
		t.Fatalf("With(%q, %q, %q) = %q, with the value %q", ls, name, value, made, got)
	}
	good := wordsValid(ls) && wordsValid(set(name, "x")) && wordsValid(set("a", value+"x"))
	if good && !labels.Valid(made) {
		t.Fatalf("With(%q, %q, %q) = %q, which is no label set", ls, name, value, made)
	}
}

// P16.1: the chapter's examples of Get and With, and the edges that its words name.
func TestPartsExamples(t *testing.T) {
	ac := set("a", "1", "c", "3")
	twice := set("c", "1", "a", "2", "c", "3", "b", "4", "a", "")
	for _, c := range []struct {
		ls          []api.Label
		name, value string
		want        []api.Label
		get         string
	}{
		{ac, "b", "2", set("a", "1", "b", "2", "c", "3"), ""},
		{ac, "a", "", set("c", "3"), "1"},
		{ac, "c", "", set("a", "1"), "3"},
		{ac, "b", "", ac, ""},
		{ac, "a", "9", set("a", "9", "c", "3"), "1"},
		{ac, "c", "9", set("a", "1", "c", "9"), "3"},
		{ac, "A", "9", set("A", "9", "a", "1", "c", "3"), ""},
		{ac, "d", "9", set("a", "1", "c", "3", "d", "9"), ""},
		{ac, "", "9", set("", "9", "a", "1", "c", "3"), ""},
		{ac, "\xff", "\xff", set("a", "1", "c", "3", "\xff", "\xff"), ""},
		{nil, "a", "1", set("a", "1"), ""},
		{nil, "a", "", nil, ""},
		{nil, "", "", nil, ""},
		{twice, "c", "4", set("a", "2", "b", "4", "a", "", "c", "4"), "1"},
		{twice, "c", "", set("a", "2", "b", "4", "a", ""), "1"},
		{twice, "a", "7", set("a", "7", "c", "1", "c", "3", "b", "4"), "2"},
		{twice, "b", "7", set("b", "7", "c", "1", "a", "2", "c", "3", "a", ""), "4"},
		{twice, "d", "7", append(slices.Clone(twice), api.Label{Name: "d", Value: "7"}), ""},
		{set("a", "", "a", "1"), "a", "2", set("a", "2"), ""},
		{set("z", "1", "a", "2", "z", "3"), "m", "4", set("m", "4", "z", "1", "a", "2", "z", "3"), ""},
		{set("a", "1", "z", "2", "b", "3"), "m", "4", set("a", "1", "m", "4", "z", "2", "b", "3"), ""},
		{set("z", "1", "a", "2"), "z", "4", set("a", "2", "z", "4"), "1"},
	} {
		if got := labels.With(c.ls, c.name, c.value); !slices.Equal(got, c.want) {
			t.Errorf("With(%q, %q, %q) = %q; want %q", c.ls, c.name, c.value, got, c.want)
		}
		if got := labels.Get(c.ls, c.name); got != c.get {
			t.Errorf("Get(%q, %q) = %q; want %q", c.ls, c.name, got, c.get)
		}
		checkParts(t, c.ls, c.name, c.value)
	}
}

// P16.1: Get and With over every small list, whether it is a label set or not.
func TestPartsSmall(t *testing.T) {
	for _, ls := range small(pairsOf([]string{"a", "b", "c", ""}, []string{"1", ""}), 3) {
		for _, name := range []string{"", "A", "a", "aa", "b", "c", "d"} {
			for _, value := range []string{"", "1", "9"} {
				checkParts(t, ls, name, value)
			}
		}
	}
	c := newChance(2)
	for range 20000 {
		checkParts(t, c.any(6), pick(c, names()), pick(c, values()))
	}
}

func checkKeep(t *testing.T, ls []api.Label, names []string) {
	t.Helper()
	for _, without := range []bool{false, true} {
		if got, want := labels.Keep(ls, names, without), wordsKeep(ls, names, without); !slices.Equal(got, want) {
			t.Fatalf("Keep(%q, %q, %t) = %q; want %q", ls, names, without, got, want)
		}
	}
}

// P16.1: the chapter's examples of Keep, and the edges that its words name.
func TestKeepExamples(t *testing.T) {
	up := set("__name__", "up", "a", "1", "b", "2")
	twice := set("b", "1", "__name__", "x", "a", "2", "b", "", "__name__", "y", "", "3")
	for _, c := range []struct {
		ls      []api.Label
		names   []string
		without bool
		want    []api.Label
	}{
		{up, []string{"a"}, true, set("b", "2")},
		{up, []string{"a", "__name__"}, false, set("__name__", "up", "a", "1")},
		{up, []string{"a", "__name__"}, true, set("b", "2")},
		{up, nil, true, set("a", "1", "b", "2")},
		{up, nil, false, nil},
		{up, []string{}, false, nil},
		{up, []string{"b", "a", "b", "b"}, false, set("a", "1", "b", "2")},
		{up, []string{"b", "a", "b", "b"}, true, nil},
		{up, []string{"x", "", "\xff"}, false, nil},
		{up, []string{"x", "", "\xff"}, true, set("a", "1", "b", "2")},
		{up, []string{"__name__"}, false, set("__name__", "up")},
		{nil, []string{"a"}, false, nil},
		{nil, []string{"a"}, true, nil},
		{twice, []string{"b"}, false, set("b", "1", "b", "")},
		{twice, []string{"b"}, true, set("a", "2", "", "3")},
		{twice, []string{"", "a", "__name__"}, false, set("__name__", "x", "a", "2", "__name__", "y", "", "3")},
		{twice, []string{""}, true, set("b", "1", "a", "2", "b", "")},
	} {
		if got := labels.Keep(c.ls, c.names, c.without); !slices.Equal(got, c.want) {
			t.Errorf("Keep(%q, %q, %t) = %q; want %q", c.ls, c.names, c.without, got, c.want)
		}
		checkKeep(t, c.ls, c.names)
	}
}

// P16.1: Keep over every small list and small lists of names.
func TestKeepSmall(t *testing.T) {
	some := small([]string{"__name__", "a", "b", ""}, 3)
	for _, ls := range small(pairsOf([]string{"a", "b", "__name__", ""}, []string{"1", ""}), 2) {
		for _, names := range some {
			checkKeep(t, ls, names)
		}
	}
	c := newChance(3)
	for range 20000 {
		checkKeep(t, c.any(8), c.names(6))
	}
}

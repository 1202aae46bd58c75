package labels_test

import (
	"slices"
	"strings"
	"testing"

	"weir/api"
	"weir/labels"
)

func checkText(t *testing.T, ls []api.Label) {
	t.Helper()
	got, want := labels.Text(ls), wordsText(ls)
	if got != want {
		t.Fatalf("Text(%q) = %q; want %q", ls, got, want)
	}
	if !wordsValid(ls) {
		return
	}
	if again, e := labels.Read(got); e != 0 || !slices.Equal(again, ls) {
		t.Fatalf("Read(%q) = %q, %d; want %q", got, again, e, ls)
	}
}

func checkRead(t *testing.T, text string) {
	t.Helper()
	want, e := wordsRead(text)
	if got, err := labels.Read(text); err != e || !slices.Equal(got, want) {
		t.Fatalf("Read(%q) = %q, %d; want %q, %d", text, got, err, want, e)
	}
}

// P16.4: the chapter's examples of Text, and the edges that its words name.
func TestTextExamples(t *testing.T) {
	for _, c := range []struct {
		ls   []api.Label
		want string
	}{
		{nil, `{}`},
		{[]api.Label{}, `{}`},
		{set("__name__", "up", "a", "x"), `up{a="x"}`},
		{set("__name__", "up"), `up`},
		{set("__name__", "a b", "c", "d"), `{__name__="a b", c="d"}`},
		{set("__name__", "a b"), `{__name__="a b"}`},
		{set("__name__", "5m"), `{__name__="5m"}`},
		{set("__name__", "a:b", "c", "d"), `a:b{c="d"}`},
		{set("__name__", ":"), `:`},
		{set("__name__", "é"), `{__name__="é"}`},
		{set("__name__", "inf", "a", "1"), `inf{a="1"}`},
		{set("__name__", "NaN"), `NaN`},
		{set("__name__", "sum", "by", "on"), `sum{by="on"}`},
		{set("__name__", "__name__"), `__name__`},
		{set("A", "x", "__name__", "up", "a", "y"), `up{A="x", a="y"}`},
		{set("A", "x", "__name__", "-", "a", "y"), `{A="x", __name__="-", a="y"}`},
		{set("a", "1", "b", "2", "c", "3"), `{a="1", b="2", c="3"}`},
		{set("inf", "nan", "nan", "inf"), `{inf="nan", nan="inf"}`},
		{set("a", "\"\\\n\x01\x7fé'`"), `{a="\"\\\n\x01\x7fé'` + "`" + `"}`},
		{set("a", "\", b=\"2"), `{a="\", b=\"2"}`},
		{set("a", "#"), `{a="#"}`},
		{set("a", ""), ``},
		{set("a", "1", "b", ""), ``},
		{set("b", "1", "a", "1"), ``},
		{set("a", "1", "a", "1"), ``},
		{set("__name__", "up", "__name__", "up"), ``},
		{set("a:b", "1"), ``},
		{set("a", "\xff"), ``},
		{set("__name__", "up", "a", "\xff"), ``},
		{set("__name__", "up", "z", "1", "a", "1"), ``},
	} {
		if got := labels.Text(c.ls); got != c.want {
			t.Errorf("Text(%q) = %s; want %s", c.ls, got, c.want)
		}
		checkText(t, c.ls)
	}
}

// P16.4: the chapter's examples of Read, the edges that its words name, and texts that it refuses.
func TestReadExamples(t *testing.T) {
	for _, c := range []struct {
		text string
		want []api.Label
		e    api.Errno
	}{
		{`up{b='2', a="1",}`, set("__name__", "up", "a", "1", "b", "2"), 0},
		{` up { b = '2' , a=` + "`1`" + " , } # }\n#{", set("__name__", "up", "a", "1", "b", "2"), 0},
		{`{}`, nil, 0},
		{`up{}`, set("__name__", "up"), 0},
		{`up`, set("__name__", "up"), 0},
		{`a:b`, set("__name__", "a:b"), 0},
		{`:`, set("__name__", ":"), 0},
		{`::1{a="1"}`, set("__name__", "::1", "a", "1"), 0},
		{`inf`, set("__name__", "inf"), 0},
		{`InF{a="1"}`, set("__name__", "InF", "a", "1"), 0},
		{`nan{}`, set("__name__", "nan"), 0},
		{`{inf="1",NaN="2"}`, set("NaN", "2", "inf", "1"), 0},
		{`sum{by="1",}`, set("__name__", "sum", "by", "1"), 0},
		{`{__name__="up"}`, set("__name__", "up"), 0},
		{`{__name__="a b",}`, set("__name__", "a b"), 0},
		{`{a=""}`, nil, 0},
		{`up{a="",b='',}`, set("__name__", "up"), 0},
		{`{a="\303\251"}`, set("a", "é"), 0},
		{`{a='\'',b=` + "`\\n`}", set("a", "'", "b", "\\n"), 0},
		{``, nil, api.ErrLabels},
		{` # up`, nil, api.ErrLabels},
		{`{a="1", a="2"}`, nil, api.ErrLabels},
		{`{a="1", a="1"}`, nil, api.ErrLabels},
		{`{a="1", a=""}`, nil, api.ErrLabels},
		{`up{__name__="up"}`, nil, api.ErrLabels},
		{`up{__name__=""}`, nil, api.ErrLabels},
		{`{__name__="up",__name__="x"}`, nil, api.ErrLabels},
		{`{,}`, nil, api.ErrLabels},
		{`up{,}`, nil, api.ErrLabels},
		{`{,a="1"}`, nil, api.ErrLabels},
		{`{a="1",,}`, nil, api.ErrLabels},
		{`{a="1",,b="2"}`, nil, api.ErrLabels},
		{`{a="1" b="2"}`, nil, api.ErrLabels},
		{`{a="1"`, nil, api.ErrLabels},
		{`{a="1",`, nil, api.ErrLabels},
		{`{`, nil, api.ErrLabels},
		{`}`, nil, api.ErrLabels},
		{`up{`, nil, api.ErrLabels},
		{`up}`, nil, api.ErrLabels},
		{`a="1"}`, nil, api.ErrLabels},
		{`{a}`, nil, api.ErrLabels},
		{`{a=}`, nil, api.ErrLabels},
		{`{="1"}`, nil, api.ErrLabels},
		{`{a"1"}`, nil, api.ErrLabels},
		{`{a=b}`, nil, api.ErrLabels},
		{`{a=1}`, nil, api.ErrLabels},
		{`{"a"="1"}`, nil, api.ErrLabels},
		{`{5="1"}`, nil, api.ErrLabels},
		{`{a:b="1"}`, nil, api.ErrLabels},
		{`{a!="1"}`, nil, api.ErrLabels},
		{`{a=~"1"}`, nil, api.ErrLabels},
		{`{a!~"1"}`, nil, api.ErrLabels},
		{`{a=="1"}`, nil, api.ErrLabels},
		{`up up`, nil, api.ErrLabels},
		{`up{} up`, nil, api.ErrLabels},
		{`{} up`, nil, api.ErrLabels},
		{`{}{}`, nil, api.ErrLabels},
		{`{{}}`, nil, api.ErrLabels},
		{`{}}`, nil, api.ErrLabels},
		{`(up)`, nil, api.ErrLabels},
		{`up[5m]`, nil, api.ErrLabels},
		{`5`, nil, api.ErrLabels},
		{`0x1f`, nil, api.ErrLabels},
		{`.5{a="1"}`, nil, api.ErrLabels},
		{`5m`, nil, api.ErrLabels},
		{`5m{}`, nil, api.ErrLabels},
		{`"up"`, nil, api.ErrLabels},
		{`"up"{a="1"}`, nil, api.ErrLabels},
		{`+`, nil, api.ErrLabels},
		{`[:]`, nil, api.ErrLabels},
		{`+inf`, nil, api.ErrLabels},
		{`up,`, nil, api.ErrLabels},
		{`{a="1"},`, nil, api.ErrLabels},
		{`{a="`, nil, api.ErrLiteral},
		{`{a="\z"}`, nil, api.ErrLiteral},
		{`{a="\xff"}`, nil, api.ErrLiteral},
		{"{a=\"\xff\"}", nil, api.ErrLiteral},
		{`{a=5mm}`, nil, api.ErrLexeme},
		{`}} !`, nil, api.ErrChar},
		{`{a="1", a="2"} é`, nil, api.ErrChar},
		{"\xff", nil, api.ErrChar},
		{"up\x00", nil, api.ErrChar},
	} {
		if got, e := labels.Read(c.text); e != c.e || !slices.Equal(got, c.want) {
			t.Errorf("Read(%s) = %q, %d; want %q, %d", c.text, got, e, c.want, c.e)
		}
		checkRead(t, c.text)
	}
}

// P16.4: the text that is exactly as long as lex.Scan takes is read, one byte more is refused, though it is a label set's.
func TestReadLongest(t *testing.T) {
	around := len(`up{a=""}`)
	ls := set("__name__", "up", "a", strings.Repeat("x", api.MaxText-around))
	text := labels.Text(ls)
	if got, e := labels.Read(text); len(text) != api.MaxText || e != 0 || !slices.Equal(got, ls) {
		t.Errorf("a text of %d bytes: %d", len(text), e)
	}
	ls[1].Value += "x"
	text = labels.Text(ls)
	if got, e := labels.Read(text); len(text) != api.MaxText+1 || e != api.ErrLong || len(got) != 0 {
		t.Errorf("a text of %d bytes: %d", len(text), e)
	}
	if got, e := labels.Read(strings.Repeat("}", api.MaxText+1)); e != api.ErrLong || len(got) != 0 {
		t.Errorf("many braces: %d", e)
	}
}

// P16.4: every short row of tokens, and every row of labels' parts in braces.
func TestReadSmall(t *testing.T) {
	for _, toks := range small([]string{"up", "a:b", "inf", "{", "}", "=", "'x'", ",", "5", "5m"}, 5) {
		checkRead(t, strings.Join(toks, " "))
	}
	for _, toks := range small([]string{"a", "=", "'x'", ","}, 7) {
		inner := strings.Join(toks, " ")
		checkRead(t, "{"+inner+"}")
		checkRead(t, "up{"+inner+"}")
	}
	for _, toks := range small([]string{"a='1'", "b='2'", "c=''", ",", "__name__='x'"}, 5) {
		inner := strings.Join(toks, " ")
		checkRead(t, "{"+inner+"}")
		checkRead(t, "up{"+inner+"}")
	}
}

// P16.4: label sets there and back, and no two with one text.
func TestTextThereAndBack(t *testing.T) {
	c, seen := newChance(7), map[string][]api.Label{}
	check := func(ls []api.Label) {
		checkText(t, ls)
		text := labels.Text(ls)
		if other, known := seen[text]; known && wordsValid(ls) && !slices.Equal(other, ls) {
			t.Fatalf("%q and %q are both %q", ls, other, text)
		}
		if wordsValid(ls) {
			seen[text] = ls
		}
	}
	for _, value := range values() {
		check(set("__name__", value))
		check(set("a", value))
		check(set("A", "1", "__name__", value, "a", value))
	}
	for _, ls := range small(pairsOf([]string{"A", "__name__", "a"}, []string{"up", "a b", "", "\xff"}), 3) {
		check(ls)
	}
	for range 30000 {
		check(c.set(6))
		check(c.any(4))
	}
	for b := range 256 {
		one := string([]byte{byte(b)})
		check(set("__name__", one))
		check(set("a", one+"é"))
		check(set("a", string(rune(b))))
	}
}

// P16.4: texts of label sets with a byte or a piece changed.
func TestReadSlips(t *testing.T) {
	c := newChance(8)
	pieces := []string{"", " ", ",", "=", "{", "}", "\"", "'", "\\", "a", "up", ":", "5", "inf", "__name__", "#", "\n", "!", "=~", "\"x\"", ",b=\"1\"", "\xff", "é"}
	for range 60000 {
		text := labels.Text(c.set(4))
		from := c.dice.IntN(len(text) + 1)
		to := min(len(text), from+c.dice.IntN(4))
		checkRead(t, text[:from]+pick(c, pieces)+text[to:])
	}
}

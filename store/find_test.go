package store_test

import (
	"fmt"
	"slices"
	"testing"

	"weir/api"
)

// shop: a few series of several names, some with labels that others don't have.
func shop() api.Dataset {
	return data(
		series(set("__name__", "up", "job", "b"), point(0, 1)),
		series(set("__name__", "down", "env", "x", "job", "a")),
		series(nil, point(0, 1)),
		series(set("__name__", "up", "job", "a"), point(0, 1)),
		series(set("env", "y"), point(5, 1)),
		series(set("__name__", "up", "env", "y", "job", "b")),
	)
}

// P19.2 and P19.3: the chapter's examples, and the names and values of chosen series alone: of a label that all have, some have and none has. The shop's series are, by number: no labels; down env=x job=a; up env=y job=b; up job=a; up job=b; env=y.
func TestAskedExamples(t *testing.T) {
	s := loaded(t, example())
	either := []api.Matcher{match("job", api.MatchRe, "a|b")}
	if got, e := s.Select(either); e != 0 || !slices.Equal(got, []int{0, 1}) {
		t.Errorf("Select = %v, %d", got, e)
	}
	if got, e := s.Names(nil); e != 0 || !slices.Equal(got, []string{"__name__", "job"}) {
		t.Errorf("Names = %q, %d", got, e)
	}
	if got, e := s.Values(nil, "job"); e != 0 || !slices.Equal(got, []string{"a", "b"}) {
		t.Errorf("Values = %q, %d", got, e)
	}
	s = loaded(t, shop())
	for _, c := range []struct {
		ms     []api.Matcher
		chosen []int
		names  string
		env    string
	}{
		{nil, []int{0, 1, 2, 3, 4, 5}, "[__name__ env job]", "[x y]"},
		{[]api.Matcher{}, []int{0, 1, 2, 3, 4, 5}, "[__name__ env job]", "[x y]"},
		{[]api.Matcher{match("env", 2, "")}, []int{1, 2, 5}, "[__name__ env job]", "[x y]"},
		{[]api.Matcher{match("env", 1, "")}, []int{0, 3, 4}, "[__name__ job]", "[]"},
		{[]api.Matcher{match("env", 1, "y")}, []int{2, 5}, "[__name__ env job]", "[y]"},
		{[]api.Matcher{match("env", 2, "y")}, []int{0, 1, 3, 4}, "[__name__ env job]", "[x]"},
		{[]api.Matcher{match("env", 1, "y"), match("job", 1, "")}, []int{5}, "[env]", "[y]"},
		{[]api.Matcher{match("__name__", 3, "up|down"), match("job", 4, "b")}, []int{1, 3}, "[__name__ env job]", "[x]"},
		{[]api.Matcher{match("__name__", 1, "up"), match("job", 3, "a")}, []int{3}, "[__name__ job]", "[]"},
		{[]api.Matcher{match("__name__", 4, ".+"), match("env", 3, "z?")}, []int{0}, "[]", "[]"},
		{[]api.Matcher{match("__name__", 1, "none")}, nil, "[]", "[]"},
		{[]api.Matcher{match("zone", 1, "x")}, nil, "[]", "[]"},
	} {
		if got, e := s.Select(c.ms); e != 0 || !slices.Equal(got, c.chosen) {
			t.Errorf("Select(%+v) = %v, %d", c.ms, got, e)
		}
		if got, e := s.Names(c.ms); e != 0 || fmt.Sprint(got) != c.names {
			t.Errorf("Names(%+v) = %q, %d", c.ms, got, e)
		}
		if got, e := s.Values(c.ms, "env"); e != 0 || fmt.Sprint(got) != c.env {
			t.Errorf("Values(%+v, env) = %q, %d", c.ms, got, e)
		}
		for _, name := range names() {
			checkAsked(t, s, wordsLoad(shop()), c.ms, name)
		}
	}
}

// P19.2 and P19.3: matchers that are refused, alone and among others, of which one may choose nothing: the first one's error and nothing beside it.
func TestAskedRefused(t *testing.T) {
	s, w := loaded(t, shop()), wordsLoad(shop())
	good, nothing := match("job", 1, "a"), match("job", 1, "none")
	for _, m := range wrongMatchers() {
		want := refused([]api.Matcher{m})
		for _, ms := range [][]api.Matcher{{m}, {good, m}, {nothing, m}, {m, nothing}, {good, m, match("b", 9, "")}, {m, match("", 3, "(")}} {
			if got, e := s.Select(ms); e != want || e == 0 || len(got) != 0 {
				t.Errorf("Select(%+v) = %v, %d", ms, got, e)
			}
			if got, e := s.Names(ms); e != want || len(got) != 0 {
				t.Errorf("Names(%+v) = %v, %d", ms, got, e)
			}
			if got, e := s.Values(ms, "job"); e != want || len(got) != 0 {
				t.Errorf("Values(%+v) = %v, %d", ms, got, e)
			}
			checkAsked(t, s, w, ms, "none")
		}
	}
}

// P19.2 and P19.3: the sets of very many series, and names and values of the greatest length.
func TestAskedOfMany(t *testing.T) {
	d := data(many(999, 0)...)
	d.Series = append(d.Series, series(wide(32)))
	s, w := loaded(t, d), wordsLoad(d)
	for _, m := range []api.Matcher{match("id", 3, "1.*"), match("id", 2, "5"), match("id", 1, "998"), match("id", 1, ""), match("a031", 1, "x"), match("a032", 1, "x"), match("id", 4, "[0-8]+")} {
		checkAsked(t, s, w, []api.Matcher{m}, "id")
		checkAsked(t, s, w, []api.Matcher{m}, "a031")
	}
	checkAsked(t, s, w, nil, "id")
	if got, e := s.Values(nil, "id"); len(got) != 999 || e != 0 {
		t.Errorf("%d values, %d", len(got), e)
	}
}

// P19.2 and P19.3: datasets and matchers by chance, with slips and without.
func TestAskedByChance(t *testing.T) {
	c := newChance(4)
	chosen := 0
	for range 1500 {
		d := c.dataset(8, 1)
		s, w := loaded(t, d), wordsLoad(d)
		for range 4 {
			ms := c.matchers(3, true)
			checkAsked(t, s, w, ms, pick(c, names()))
			got, _ := s.Select(ms)
			chosen += len(got)
		}
	}
	if chosen < 3000 {
		t.Errorf("%d series were chosen", chosen)
	}
}

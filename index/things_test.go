package index_test

import (
	"math"
	"math/rand/v2"
	"slices"

	"weir/api"
)

// Names and values of label sets, and beside them such as can't stand in one.
func goodNames() []string { return []string{"__name__", "a", "b", "job", "A", "_", "a0", "ab"} }

func names() []string {
	return append(goodNames(), "", "0x", "a:b", "a b", "é", "\xff", "a\x00", "none", "zone")
}

func goodValues() []string {
	return []string{"1", "2", "up", "a", "b", "ab", "a.b", "é", "\x00", "日本", "\n", "11", " "}
}

func values() []string { return append(goodValues(), "", "\xff", "a\xc3", "none", "\xed\xa0\x80") }

// wrongSets: lists that are no label sets, each in a way of its own.
func wrongSets() [][]api.Label {
	return [][]api.Label{
		set("a", ""),
		set("", "1"),
		set("0x", "1"),
		set("a:b", "1"),
		set("é", "1"),
		set("a", "\xff"),
		set("a\xff", "1"),
		set("b", "1", "a", "1"),
		set("a", "1", "a", "1"),
		set("a", "1", "a", "2"),
		set("a", "1", "b", ""),
		set("", ""),
	}
}

// patterns: such as take the empty text and such as don't, lists of finitely many texts and others.
func patterns() []string {
	return []string{"", "1", "a|b", "1|", "(a|b)?", "x?", ".*", ".+", "a+", "[^a]*", "(?i)UP", "u.", "a\\.b", "^1$", "(?s).", "é", "[12]", "1{1,2}", "(?s).*", "none"}
}

// wrongPatterns: each refused by another error.
func wrongPatterns() []string {
	return []string{"(", ")", "[", "a**", "\\8", "(?P<->a)", "(?z)", "a{1001}", "((a{100}){100}){2}"}
}

// small: all lists of at most n things of a kind.
func small[T any](things []T, n int) [][]T {
	all := [][]T{nil}
	for from := 0; n > 0; n-- {
		to := len(all)
		for _, list := range all[from:to] {
			for _, x := range things {
				all = append(all, append(slices.Clone(list), x))
			}
		}
		from = to
	}
	return all
}

// smallSets: all label sets of the names a and b with the values 1 and 2.
func smallSets() [][]api.Label {
	var all [][]api.Label
	for _, a := range []string{"", "1", "2"} {
		for _, b := range []string{"", "1", "2"} {
			ls := set("a", a, "b", b)
			all = append(all, slices.DeleteFunc(ls, func(l api.Label) bool { return l.Value == "" }))
		}
	}
	return all
}

// smallMatchers: each operator over the names of the small sets and one that none has.
func smallMatchers() []api.Matcher {
	var all []api.Matcher
	for _, name := range []string{"a", "b", "c"} {
		for op := api.MatchEq; op <= api.MatchNre; op++ {
			for _, value := range []string{"", "1", "3"} {
				all = append(all, api.Matcher{Name: name, Op: op, Value: value})
			}
		}
		for _, pattern := range []string{"1|2", "1|", ".*", ".+"} {
			all = append(all, api.Matcher{Name: name, Op: api.MatchRe, Value: pattern}, api.Matcher{Name: name, Op: api.MatchNre, Value: pattern})
		}
	}
	return all
}

// chance makes things by chance, the same ones each time.
type chance struct{ dice *rand.Rand }

func newChance(seed uint64) chance { return chance{rand.New(rand.NewPCG(seed, 18))} }

func pick[T any](c chance, list []T) T { return list[c.dice.IntN(len(list))] }

// set: a label set; few names and values, so that many sets have one in common.
func (c chance) set() []api.Label {
	good := goodNames()
	slices.Sort(good)
	var ls []api.Label
	for _, name := range good {
		if c.dice.IntN(3) == 0 {
			ls = append(ls, api.Label{Name: name, Value: pick(c, goodValues()[:2+c.dice.IntN(9)])})
		}
	}
	return ls
}

// sets: up to n label sets, some of them the same; with a slip now and then.
func (c chance) sets(n int, slips bool) [][]api.Label {
	var all [][]api.Label
	for range c.dice.IntN(n + 1) {
		if len(all) > 0 && c.dice.IntN(6) == 0 {
			all = append(all, pick(c, all))
			continue
		}
		all = append(all, c.set())
	}
	if slips && c.dice.IntN(4) == 0 {
		all = slices.Insert(all, c.dice.IntN(len(all)+1), pick(c, wrongSets()))
	}
	return all
}

func (c chance) matcher(slips bool) api.Matcher {
	m := api.Matcher{Name: pick(c, append(goodNames(), "none")), Op: 1 + c.dice.IntN(4), Value: pick(c, append(goodValues(), ""))}
	if m.Op >= api.MatchRe {
		m.Value = pick(c, patterns())
	}
	if !slips || c.dice.IntN(6) > 0 {
		return m
	}
	switch c.dice.IntN(4) {
	case 0:
		m.Op = pick(c, []int{0, 5, -1, math.MaxInt, math.MinInt})
	case 1:
		m.Name = pick(c, names())
	case 2:
		m.Value = pick(c, values())
	case 3:
		m.Value = pick(c, wrongPatterns())
	}
	return m
}

func (c chance) matchers(n int, slips bool) []api.Matcher {
	var ms []api.Matcher
	for range c.dice.IntN(n + 1) {
		ms = append(ms, c.matcher(slips))
	}
	return ms
}

// numbers: a list in any order, with some numbers more than once.
func (c chance) numbers(n int) []int {
	var list []int
	for range c.dice.IntN(n + 1) {
		list = append(list, c.dice.IntN(2*n)-n/2)
	}
	if c.dice.IntN(5) == 0 {
		list = append(list, pick(c, []int{math.MinInt, math.MaxInt, -1, 0}))
	}
	return list
}

package labels_test

import (
	"math/rand/v2"
	"slices"

	"weir/api"
)

// names and values of all sorts: those of label sets first, then what can't stand in one, and what a text or a key might trip over.
func names() []string {
	return slices.Concat(goodNames(), []string{"", "0x", "a:b", "a b", "é", "\xff", "a\n", "a\x00", "\"", "{", "1:a", "a=", ","})
}

func goodNames() []string {
	return []string{"a", "b", "c", "A", "_", "__name__", "__name", "__name__a", "ab", "a0", "Z_9", "inf", "by", "le"}
}

func values() []string { return append(goodValues(), "", "\xff", "a\xc3", "\xed\xa0\x80") }

func goodValues() []string {
	return []string{"1", "2", "up", "a:b", ":", "inf", "NaN", "sum", "0x", "a b", "\"", "\\", "'", "`", "\n", "\r\t", "\x00", "\x01\x7f", "é", "日本", "\U0001F600", "{", "}", ",", "=", "{a=\"1\"}", "\\n", "a\",b=\"c", "#", "1:", "3:abc", " "}
}

// small: all lists of at most n things of a kind.
func small[T any](things []T, n int) [][]T {
	all := [][]T{nil}
	for from := 0; n > 0; n-- {
		to := len(all)
		for _, list := range all[from:to] {
			for _, x := range things {
				all = append(all, append(slices.Clone(list), x))
			}
		}
		from = to
	}
	return all
}

// pairsOf: each of the names with each of the values.
func pairsOf(names, values []string) []api.Label {
	var all []api.Label
	for _, name := range names {
		for _, value := range values {
			all = append(all, api.Label{Name: name, Value: value})
		}
	}
	return all
}

// chance makes things by chance, the same ones each time.
type chance struct{ dice *rand.Rand }

func newChance(seed uint64) chance { return chance{rand.New(rand.NewPCG(seed, 16))} }

func pick[T any](c chance, list []T) T { return list[c.dice.IntN(len(list))] }

// list: labels in any order, some twice.
func (c chance) list(n int) []api.Label {
	var ls []api.Label
	for range c.dice.IntN(n + 1) {
		ls = append(ls, api.Label{Name: pick(c, names()), Value: pick(c, values())})
	}
	return ls
}

// pairs: names that differ, in any order, with texts; with a slip now and then.
func (c chance) pairs(n int, slips bool) []api.Label {
	good := goodNames()
	c.dice.Shuffle(len(good), func(i, j int) { good[i], good[j] = good[j], good[i] })
	var ls []api.Label
	for _, name := range good[:c.dice.IntN(min(n, len(good))+1)] {
		ls = append(ls, api.Label{Name: name, Value: pick(c, goodValues())})
	}
	for slips && len(ls) > 0 && c.dice.IntN(2) == 0 {
		switch l := &ls[c.dice.IntN(len(ls))]; c.dice.IntN(4) {
		case 0:
			l.Name = pick(c, names())
		case 1:
			l.Value = pick(c, values())
		case 2:
			l.Name = ls[0].Name
		case 3:
			l.Value = ""
		}
	}
	return ls
}

// set: a label set.
func (c chance) set(n int) []api.Label {
	ls := c.pairs(n, false)
	slices.SortFunc(ls, func(a, b api.Label) int { return wordsCompare([]api.Label{a}, []api.Label{b}) })
	return ls
}

// any: a list of any sort.
func (c chance) any(n int) []api.Label {
	switch c.dice.IntN(4) {
	case 0:
		return c.list(n)
	case 1:
		return c.pairs(n, true)
	case 2:
		return c.pairs(n, false)
	}
	return c.set(n)
}

func (c chance) names(n int) []string {
	var list []string
	for range c.dice.IntN(n + 1) {
		list = append(list, pick(c, names()))
	}
	return list
}

func patterns() []string {
	return []string{"", "1", "1|2", ".*", ".+", "a+", "(a|ab)(c|bcd)?", "[^a]*", "(?i)UP", "u.", "é", ".", "\\d*", "x?", "a\\.b", "^1$", "(?s).", "\\b1"}
}

func wrongPatterns() []string {
	return []string{"(", ")", "[", "a**", "\\8", "(?P<->a)", "(?z)", "a{1001}"}
}

func (c chance) matcher(slips bool) api.Matcher {
	m := api.Matcher{Name: pick(c, goodNames()), Op: 1 + c.dice.IntN(4), Value: pick(c, goodValues())}
	if m.Op >= 3 {
		m.Value = pick(c, patterns())
	}
	if !slips || c.dice.IntN(3) > 0 {
		return m
	}
	switch c.dice.IntN(4) {
	case 0:
		m.Op = pick(c, []int{0, 5, -1, 1 << 62, -1 << 63})
	case 1:
		m.Name = pick(c, names())
	case 2:
		m.Value = pick(c, values())
	case 3:
		m.Value = pick(c, wrongPatterns())
	}
	return m
}

func (c chance) matchers(n int, slips bool) []api.Matcher {
	var ms []api.Matcher
	for range c.dice.IntN(n + 1) {
		ms = append(ms, c.matcher(slips))
	}
	return ms
}

// elems: a vector of label sets, in any order, hardly ever with the same one twice.
func (c chance) elems(n int, slips bool) []api.Elem {
	var v []api.Elem
	for i := range c.dice.IntN(n + 1) {
		ls := c.set(3)
		if slips && c.dice.IntN(3*n) == 0 {
			ls = c.any(3)
		}
		v = append(v, api.Elem{Labels: ls, V: float64(i)})
	}
	return v
}

package check_test

import (
	"slices"
	"testing"

	"weir/api"
	"weir/check"
	"weir/tree"
)

// rowsOf: the rows of a text that must be a query.
func rowsOf(t *testing.T, text string) []api.Row {
	t.Helper()
	return tree.Rows(parsed(t, text))
}

// sound: queries that are taken and have between them each kind of node.
func sound() []string {
	return []string{
		"1", "'('", "up", "{a='x'}", `{a=~".+",b=~".*"}`, `up{__name__=~"x"}`, "up[5m]", "up[5m:]", "-up", "1 + 1", "up == bool 1",
		`label_replace(label_join(up, "a", "(", "b", "c"), "a", "$1(", "b", "(.*)")`,
		"(sum by (a) (rate(up[5m] offset 5m)) / on (a) group_left (b) max_over_time((-up + 1)[1h:5m] @ 5))[1h:]",
		`topk(scalar(up) + time() < bool 2, count_values without (x) ("v", {a!=""} @ end()))`,
		"hour() + hour(up) + round(up) + round(up, pi()) and quantile_over_time(0.5, up[1ms]) unless ignoring (a) absent(up)",
		`{__name__="up"} or {__name__!="",__name__="x"} or up{__name__!="x",__name__!~"y"}`,
	}
}

// takenTrees: the sound queries' rows, and trees by chance that are taken.
func takenTrees(t *testing.T, seed uint64) [][]api.Row {
	t.Helper()
	var all [][]api.Row
	for _, s := range sound() {
		all = append(all, rowsOf(t, s))
	}
	f := newForest(seed, 0)
	for i := range 800 {
		all = append(all, f.tree("vvms"[i%4], 2+i%6))
	}
	return all
}

// size: how many of the rows belong to the tree at their head.
func size(rows []api.Row) int {
	n := 1
	for range rows[0].Kids {
		n += size(rows[n:])
	}
	return n
}

// P14.3: where a tree is taken, so is each part of it, by itself.
func TestParts(t *testing.T) {
	parts, kinds := 0, map[int]int{}
	for _, rows := range takenTrees(t, 2) {
		if _, e := agree(t, rows); e != api.OK {
			t.Fatalf("%+v isn't taken: %d", rows, e)
		}
		for i := range rows {
			part := rows[i : i+size(rows[i:])]
			if kind, e := check.Check(built(t, part)); e != api.OK || kind == 0 {
				t.Fatalf("%+v, a part of a tree that is taken: %d, %d", part, kind, e)
			}
			parts++
			kinds[rows[i].Kind]++
		}
	}
	if parts < 3000 || len(kinds) != 9 {
		t.Errorf("%d parts of the kinds %v", parts, kinds)
	}
}

// P14.3, the other way round, and P14.2: a tree with a kid that is refused by itself is refused for the same fault as the first such kid.
func TestFaultsOfParts(t *testing.T) {
	f := newForest(3, 15)
	refused := 0
	for i := range 1500 {
		rows := f.tree("vvms"[i%4], 2+i%5)
		whole, fault := check.Check(built(t, rows))
		at := 1
		for range rows[0].Kids {
			kid := rows[at : at+size(rows[at:])]
			at += len(kid)
			if _, e := check.Check(built(t, kid)); e != api.OK {
				refused++
				if whole != 0 || fault != e {
					t.Fatalf("%+v: %d, %d, but its kid %+v: %d", rows, whole, fault, kid, e)
				}
				break
			}
		}
	}
	if refused < 200 {
		t.Errorf("%d have such a kid", refused)
	}
}

// further: matchers that may be put in behind a selector's own: none with =, and no pattern that isn't taken.
func further(f *forest) []api.Matcher {
	var list []api.Matcher
	for range f.dice.IntN(5) {
		m := f.matcher(small())
		if m.Op != api.MatchEq {
			list = append(list, m)
		}
	}
	return list
}

// P14.4: matchers put in behind the selectors' own leave a tree taken, with its type.
func TestPutIn(t *testing.T) {
	f := newForest(4, 0)
	put := 0
	for _, rows := range takenTrees(t, 5) {
		x := built(t, rows)
		kind, e := check.Check(x)
		if e != api.OK {
			t.Fatalf("%+v isn't taken: %d", rows, e)
		}
		same := further(f)
		for _, more := range []func() []api.Matcher{func() []api.Matcher { return same }, func() []api.Matcher { return further(f) }} {
			y := tree.Map(x, func(s api.Selector) api.Selector {
				list := more()
				put += len(list)
				s.Matchers = slices.Concat(s.Matchers, list)
				return s
			})
			if got, e := agree(t, tree.Rows(y)); e != api.OK || got != kind {
				t.Fatalf("%+v with further matchers: %d, %d; without %d", tree.Rows(y), got, e, kind)
			}
		}
	}
	if put < 2000 {
		t.Errorf("%d matchers were put in", put)
	}
}

// P14.4: each matcher that may be put in, alone, behind each sort of selector.
func TestPutInEach(t *testing.T) {
	for _, text := range sound() {
		x := parsed(t, text)
		kind, _ := check.Check(x)
		for _, name := range []string{"a", "tenant", "__name__"} {
			for op := api.MatchNe; op <= api.MatchNre; op++ {
				for _, value := range taken() {
					y := tree.Map(x, func(s api.Selector) api.Selector {
						s.Matchers = append(s.Matchers, api.Matcher{Name: name, Op: op, Value: value})
						return s
					})
					if got, e := check.Check(y); got != kind || e != api.OK {
						t.Fatalf("%s with %s %d %.20q: %d, %d", text, name, op, value, got, e)
					}
				}
			}
		}
	}
	bad := api.Matcher{Name: "a", Op: api.MatchNre, Value: "("}
	y := tree.Map(parsed(t, "up"), func(s api.Selector) api.Selector { s.Matchers = append(s.Matchers, bad); return s })
	if _, e := check.Check(y); e != api.ErrRegex {
		t.Errorf("a pattern that isn't taken, put in: %d", e)
	}
}

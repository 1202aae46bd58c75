package check_test

import (
	"fmt"
	"reflect"
	"runtime"
	"slices"
	"strconv"
	"strings"
	"sync"
	"testing"
	"time"

	"weir/api"
	"weir/check"
	"weir/tree"
)

// chain: n nodes of one kind below each other, on at the kid of that number, the other kids plain ones of these types, and the last rows below them.
func chain(n int, r api.Row, types string, way int, last []api.Row) []api.Row {
	r.Kids = len(types)
	var head, tail []api.Row
	for range n {
		head = append(head, r)
		for k := range len(types) {
			if k < way {
				head = append(head, ofType(types[k])...)
			} else if k > way {
				tail = append(tail, ofType(types[k])...)
			}
		}
	}
	return slices.Concat(head, last, tail)
}

// P1, rule 1: trees of the greatest depth, along each way down; what is at the bottom is found.
func TestDeepest(t *testing.T) {
	up, bare := []api.Row{{Kind: 3, Text: "up"}}, []api.Row{{Kind: 3}}
	for _, c := range []struct {
		row   api.Row
		types string
		way   int
		last  []api.Row
		kind  int
		e     api.Errno
	}{
		{api.Row{Kind: 6, Op: "-"}, "v", 0, up, api.ValVector, api.OK},
		{api.Row{Kind: 6, Op: "-"}, "s", 0, []api.Row{{Kind: 1, Text: "1"}}, api.ValScalar, api.OK},
		{api.Row{Kind: 6, Op: "-"}, "t", 0, []api.Row{{Kind: 2, Text: "1"}}, 0, api.ErrType},
		{api.Row{Kind: 6, Op: "-"}, "v", 0, bare, 0, api.ErrBare},
		{api.Row{Kind: 7, Op: "+"}, "vv", 0, up, api.ValVector, api.OK},
		{api.Row{Kind: 7, Op: "+"}, "sv", 1, up, api.ValVector, api.OK},
		{api.Row{Kind: 7, Op: "+"}, "vv", 0, bare, 0, api.ErrBare},
		{api.Row{Kind: 7, Op: "+"}, "vv", 1, bare, 0, api.ErrBare},
		{api.Row{Kind: 8, Op: "abs"}, "v", 0, up, api.ValVector, api.OK},
		{api.Row{Kind: 8, Op: "label_join"}, "vttttt", 0, up, api.ValVector, api.OK},
		{api.Row{Kind: 8, Op: "histogram_quantile"}, "sv", 1, bare, 0, api.ErrBare},
		{api.Row{Kind: 9, Op: "sum"}, "v", 0, up, api.ValVector, api.OK},
		{api.Row{Kind: 9, Op: "topk"}, "sv", 1, up, api.ValVector, api.OK},
		{api.Row{Kind: 9, Op: "topk"}, "sv", 1, bare, 0, api.ErrBare},
		{api.Row{Kind: 5, Dur: "5m"}, "v", 0, up, 0, api.ErrType},
	} {
		x := built(t, chain(api.MaxDepth-1, c.row, c.types, c.way, c.last))
		if tree.Depth(x) != api.MaxDepth {
			t.Fatalf("depth %d", tree.Depth(x))
		}
		if kind, e := check.Check(x); kind != c.kind || e != c.e {
			t.Errorf("%+v over %s, on at %d: %d, %d", c.row, c.types, c.way, kind, e)
		}
	}
}

// quick: the time that a call takes must be no more than one that goes through what it is given once, or nearly so, could take on a slow machine.
func quick(t *testing.T, what string, call func()) {
	t.Helper()
	begin := time.Now()
	call()
	if took := time.Since(begin); took > 20*time.Second {
		t.Errorf("%s: %s", what, took)
	}
}

// P1, rule 1: trees of very many nodes, matchers and names.
func TestGreatest(t *testing.T) {
	const n = 150000
	up := api.Row{Kind: 3, Text: "up"}
	var list, other []string
	for i := range n {
		list, other = append(list, "a"+strconv.Itoa(i)), append(other, "b"+strconv.Itoa(i))
	}
	wide := func(labels, include []string) []api.Row {
		return []api.Row{{Kind: 7, Kids: 2, Op: "+", Matching: api.Matching{Given: true, On: true, Labels: labels, Card: 1, Include: include}}, up, up}
	}
	many := func(last api.Matcher) []api.Row {
		return []api.Row{{Kind: 3, Matchers: append(slices.Repeat([]api.Matcher{{Name: "a", Op: 3, Value: "x*"}, {Name: "b", Op: 2, Value: "y"}}, n), last)}}
	}
	for _, c := range []struct {
		what string
		rows []api.Row
		kind int
		e    api.Errno
	}{
		{"names that don't meet", wide(list, other), api.ValVector, api.OK},
		{"names of which the last meet", wide(append(list, "z"), append(other, "z")), 0, api.ErrGrouping},
		{"names of which the first meet", wide(append([]string{"z"}, list...), append([]string{"z"}, other...)), 0, api.ErrGrouping},
		{"a call of a name that is none", over(api.Row{Kind: 8, Op: "nothing"}, strings.Repeat("v", n)), 0, api.ErrFunction},
		{"a call with too many arguments", over(api.Row{Kind: 8, Op: "abs"}, strings.Repeat("v", n)), 0, api.ErrArity},
		{"a call with many texts", over(api.Row{Kind: 8, Op: "label_join"}, "v"+strings.Repeat("t", n)), api.ValVector, api.OK},
		{"a call with many texts and a number", over(api.Row{Kind: 8, Op: "label_join"}, "v"+strings.Repeat("t", n)+"s"), 0, api.ErrType},
		{"a selector of many matchers that holds of all", many(api.Matcher{Name: "c", Op: 1}), 0, api.ErrBare},
		{"a selector of many matchers", many(api.Matcher{Name: "c", Op: 1, Value: "x"}), api.ValVector, api.OK},
		{"a selector of many matchers and a pattern that is none", many(api.Matcher{Name: "c", Op: 3, Value: "("}), 0, api.ErrRegex},
		{"a long name", []api.Row{{Kind: 3, Text: strings.Repeat("n", api.MaxText)}}, api.ValVector, api.OK},
		{"a long pattern", []api.Row{{Kind: 3, Text: "up", Matchers: []api.Matcher{{Name: "a", Op: 3, Value: strings.Repeat("x", 1<<26)}}}}, 0, api.ErrRegex},
		{"a long text", []api.Row{{Kind: 9, Kids: 2, Op: "count_values"}, {Kind: 2, Text: strings.Repeat("x", 1<<26)}, up}, api.ValVector, api.OK},
	} {
		x := built(t, c.rows)
		quick(t, c.what, func() {
			if kind, e := check.Check(x); kind != c.kind || e != c.e {
				t.Errorf("%s: %d, %d", c.what, kind, e)
			}
		})
	}
}

// P1, rule 1: a pattern that is dear to compile and stands in very many selectors, as a policy's does.
func TestOnePatternManyTimes(t *testing.T) {
	rows := over(api.Row{Kind: 8, Op: "nothing"}, strings.Repeat("v", 20000))
	dear := []api.Matcher{{Name: "a", Op: 3, Value: "(?i)(?:[a-zé-ÿ]{1000}){9}"}, {Name: "b", Op: 4, Value: "(?:x{1000}){9}"}}
	for i := range rows[1:] {
		rows[1+i].Matchers = dear
	}
	x := built(t, rows)
	var before, after runtime.MemStats
	runtime.ReadMemStats(&before)
	_, e := check.Check(x)
	runtime.ReadMemStats(&after)
	if grown := after.TotalAlloc - before.TotalAlloc; e != api.ErrFunction || grown > 200<<20 {
		t.Errorf("%d, with %d bytes", e, grown)
	}
}

// marked: a tree whose lists all have spare room with marks in it, and what they hold with that room.
func marked(t *testing.T, text string) (x api.Tree, room func() string) {
	t.Helper()
	x = parsed(t, text)
	var lists []func() string
	names := func(list *[]string) {
		*list = append(*list, "mark", "mark")[:len(*list)]
		lists = append(lists, func() string { return fmt.Sprint((*list)[:cap(*list)]) })
	}
	var mark func(node api.Expr)
	mark = func(node api.Expr) {
		switch n := node.(type) {
		case *api.Selector:
			n.Matchers = append(n.Matchers, api.Matcher{Name: "mark", Op: 1, Value: "("})[:len(n.Matchers)]
			lists = append(lists, func() string { return fmt.Sprint(n.Matchers[:cap(n.Matchers)]) })
		case *api.Range:
			mark(n.Of)
		case *api.Subquery:
			mark(n.X)
		case *api.Unary:
			mark(n.X)
		case *api.Binary:
			names(&n.Labels)
			names(&n.Include)
			mark(n.X)
			mark(n.Y)
		case *api.Call:
			for _, arg := range n.Args {
				mark(arg)
			}
			n.Args = append(n.Args, nil)[:len(n.Args)]
			lists = append(lists, func() string { return fmt.Sprint(len(n.Args), n.Args[:cap(n.Args)]) })
		case *api.Aggregate:
			names(&n.Labels)
			if n.Param != nil {
				mark(n.Param)
			}
			mark(n.X)
		}
	}
	mark(x.Root)
	return x, func() string {
		all := fmt.Sprintf("%+v ", tree.Rows(x))
		for _, told := range lists {
			all += told()
		}
		return all
	}
}

// P1, rule 5: a tree stays as it is, the spare room of its lists too; and what that room holds counts for nothing.
func TestTreesStay(t *testing.T) {
	for _, text := range append(sound(), broken()...) {
		x, room := marked(t, text)
		before := room()
		kind, e := check.Check(x)
		if want, fault := wantedOf(rowsOf(t, text)); kind != want || e != fault {
			t.Errorf("Check(%s) = %d, %d", text, kind, e)
		}
		if after := room(); after != before {
			t.Errorf("Check(%s) left %s of %s", text, after, before)
		}
	}
}

// P1, rules 3 and 4: beside an error the type is 0; a tree's empty lists and nil lists are the same.
func TestEmptyLists(t *testing.T) {
	for _, x := range []api.Tree{
		{Root: &api.Selector{Matchers: []api.Matcher{}}},
		{Root: &api.Selector{}},
	} {
		if kind, e := check.Check(x); kind != 0 || e != api.ErrBare {
			t.Errorf("%+v: %d, %d", x.Root, kind, e)
		}
	}
	for _, x := range []api.Tree{
		{Root: &api.Call{Name: "time", Args: []api.Expr{}}},
		{Root: &api.Call{Name: "time"}},
		{Root: &api.Binary{Op: "+", X: &api.Number{Lexeme: "1"}, Y: &api.Number{Lexeme: "1"}, Matching: api.Matching{Labels: []string{}, Include: []string{}}}},
	} {
		if kind, e := check.Check(x); kind != api.ValScalar || e != api.OK {
			t.Errorf("%+v: %d, %d", x.Root, kind, e)
		}
	}
}

// An answer is what all calls answer of one tree and one name.
type answer struct {
	kind int
	e    api.Errno
	sig  api.Sig
	ok   bool
	aggr int
	agg  bool
}

func ask(x api.Tree, name string) answer {
	var a answer
	a.kind, a.e = check.Check(x)
	a.sig, a.ok = check.Func(name)
	a.aggr, a.agg = check.Aggr(name)
	return a
}

// questions: trees and names of all sorts.
func questions(t *testing.T, seed uint64) (trees []api.Tree, names []string) {
	t.Helper()
	f := newForest(seed, 25)
	all := append(slices.Concat(check.Funcs(), aggregations()), "", "nothing", "Rate")
	for i := range 150 {
		trees = append(trees, built(t, f.tree("vvms"[i%4], 1+i%5)))
		names = append(names, all[i%len(all)])
	}
	trees[0] = api.Tree{}
	return trees, names
}

// P1, rule 6, and P2: the same question has the same answer, whatever was asked between.
func TestSameAnswerAgain(t *testing.T) {
	trees, names := questions(t, 6)
	var want []answer
	for i, x := range trees {
		want = append(want, ask(x, names[i]))
	}
	first := check.Funcs()
	for i := len(trees) - 1; i >= 0; i-- {
		if got := ask(trees[i], names[i]); !reflect.DeepEqual(got, want[i]) {
			t.Fatalf("%+v, and later %+v", want[i], got)
		}
	}
	if again := check.Funcs(); !slices.Equal(first, again) {
		t.Errorf("%q, and later %q", first, again)
	}
}

// settled: how many goroutines there are, once those have ended that the runtime or an earlier test still had: at most n, unless one was left behind since there were n.
func settled(n int) int {
	now := runtime.NumGoroutine()
	for tries := 0; now > n && tries < 500; tries++ {
		time.Sleep(10 * time.Millisecond)
		now = runtime.NumGoroutine()
	}
	return now
}

// P1, rule 10: calls beside each other, over one tree too, answer what they would have answered alone; and no call begins a goroutine.
func TestBesideEachOther(t *testing.T) {
	trees, names := questions(t, 7)
	var want []answer
	before := runtime.NumGoroutine()
	for i, x := range trees {
		want = append(want, ask(x, names[i]))
	}
	if after := settled(before); after > before {
		t.Errorf("%d goroutines, and then %d", before, after)
	}
	var all sync.WaitGroup
	for g := range 8 {
		all.Go(func() {
			for i := range trees {
				k := (i*(2*g+1) + g) % len(trees)
				if got := ask(trees[k], names[k]); !reflect.DeepEqual(got, want[k]) {
					t.Errorf("%+v, and beside others %+v", want[k], got)
				}
				if len(check.Funcs()) != 58 {
					t.Error("Funcs beside others")
				}
			}
		})
	}
	all.Wait()
}

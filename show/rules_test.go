package show_test

import (
	"fmt"
	"math"
	"runtime"
	"slices"
	"strconv"
	"strings"
	"sync"
	"testing"
	"time"
	"unsafe"

	"weir/api"
	"weir/show"
	"weir/tree"
)

// quick: the time that a call takes must be no more than one that goes through what it is given once, or nearly so, could take on a slow machine.
func quick(t *testing.T, what string, call func()) {
	t.Helper()
	begin := time.Now()
	call()
	if took := time.Since(begin); took > 20*time.Second {
		t.Errorf("%s: %s", what, took)
	}
}

// P1, rule 1: trees of very many nodes, matchers and names, and of long texts.
func TestGreatest(t *testing.T) {
	const n = 60000
	var names []string
	for i := range n {
		names = append(names, "a"+strconv.Itoa(i))
	}
	var args [][]api.Row
	for i := range n {
		args = append(args, unary("-", binary("+", number(strconv.Itoa(i)), plainly("a"))))
	}
	wide := slices.Concat([]api.Row{{Kind: 7, Kids: 2, Op: "+", Matching: api.Matching{Given: true, On: true, Labels: names, Card: 1, Include: names}}}, plainly("a"), plainly("b"))
	many := selector("", api.When{}, slices.Repeat([]api.Matcher{{Name: "a", Op: 3, Value: "x*"}, {Name: "b", Op: 2, Value: "\n"}}, n)...)
	tower := plainly("a")
	for range 12 {
		tower = binary("-", tower, binary("-", tower, number("1")))
	}
	for what, rows := range map[string][]api.Row{
		"a call of many things":         call("f", args...),
		"an operator with many names":   wide,
		"an aggregation of many names":  aggregate("sum", false, names, plainly("a")),
		"a selector with many matchers": many,
		"a tree with many nodes":        tower,
		"a long string":                 text(strings.Repeat("\x01", 1<<24)),
		"a long matcher":                selector("up", api.When{}, api.Matcher{Name: "a", Op: 2, Value: strings.Repeat("x", 1<<25)}),
	} {
		x, want := built(t, rows), shown(rows)
		quick(t, what, func() {
			if got := show.Show(x); got != want {
				t.Errorf("%s: %d bytes; want %d", what, len(got), len(want))
			}
		})
		if len(want) < api.MaxText {
			back(t, x, want)
		}
	}
	list := many[0].Matchers
	wrong := append(slices.Clone(list), api.Matcher{Name: "a", Op: 5})
	quick(t, "many matchers", func() {
		if got := show.Matchers(list); got != braces(list) {
			t.Errorf("many matchers: %d bytes", len(got))
		}
		if got := show.Matchers(wrong); got != "" {
			t.Errorf("many matchers and a wrong one: %d bytes", len(got))
		}
		if got := show.Selector(api.Selector{Name: "up", Matchers: wrong}); got != "" {
			t.Errorf("a selector with a wrong matcher: %d bytes", len(got))
		}
	})
}

// P1, rule 1: no call panics, whatever it is given.
func TestTotal(t *testing.T) {
	f := newForest(7)
	texts := slices.Concat(odd(), values())
	for range 20000 {
		s := api.Selector{Name: pick(f, texts), When: api.When{Offset: pick(f, texts), At: pick(f, texts)}}
		for range f.dice.IntN(3) {
			s.Matchers = append(s.Matchers, api.Matcher{Name: pick(f, texts), Op: pick(f, ints()), Value: pick(f, texts)})
		}
		if got := show.Selector(s); got != shownSelector(s) {
			t.Fatalf("Selector(%+v) = %q", s, got)
		}
		if got := show.Matchers(s.Matchers); got != shownMatchers(s.Matchers) {
			t.Fatalf("Matchers(%+v) = %q", s.Matchers, got)
		}
	}
	if got := show.Matchers([]api.Matcher{{Op: math.MinInt}}); got != "" {
		t.Errorf("Matchers = %q", got)
	}
	if got := show.Matchers(nil) + show.Matchers([]api.Matcher{}) + show.Selector(api.Selector{}); got != "{}{}{}" {
		t.Errorf("of nothing: %q", got)
	}
}

// P1, rule 4: an empty list is as good as nil, in each node that has lists.
func TestEmptyLists(t *testing.T) {
	a, none := &api.Selector{Name: "a", Matchers: []api.Matcher{}}, []string{}
	for want, x := range map[string]api.Expr{
		"a":                                  a,
		"{}":                                 &api.Selector{Matchers: []api.Matcher{}},
		"f()":                                &api.Call{Name: "f", Args: []api.Expr{}},
		"a + a":                              &api.Binary{Op: "+", X: a, Y: a, Matching: api.Matching{Labels: none, Include: none}},
		"a + ignoring() a":                   &api.Binary{Op: "+", X: a, Y: a, Matching: api.Matching{Given: true, Labels: none, Include: none}},
		"a + on() group_right() a":           &api.Binary{Op: "+", X: a, Y: a, Matching: api.Matching{Given: true, On: true, Card: 2, Labels: none, Include: none}},
		"sum(a)":                             &api.Aggregate{Op: "sum", X: a, Labels: none},
		"topk without() (a, a[5m])":          &api.Aggregate{Op: "topk", Without: true, Param: a, X: &api.Range{Of: a, Dur: "5m"}, Labels: none},
		"a[1h:] @ 1 offset 1m":               &api.Subquery{X: a, Dur: "1h", When: api.When{At: "1", Offset: "1m"}},
		"-f() ^ (a ^ +1)[5m:1m] unless \"\"": &api.Binary{Op: "unless", X: &api.Unary{Op: "-", X: &api.Binary{Op: "^", X: &api.Call{Name: "f"}, Y: &api.Subquery{X: &api.Binary{Op: "^", X: a, Y: &api.Unary{Op: "+", X: &api.Number{Lexeme: "1"}}}, Dur: "5m", Step: "1m"}}}, Y: &api.Text{}},
	} {
		if got := show.Show(api.Tree{Root: x}); got != want {
			t.Errorf("Show = %q; want %q", got, want)
		}
	}
}

// kids: the nodes right below a node.
func kids(node api.Expr) []api.Expr {
	switch n := node.(type) {
	case *api.Range:
		return []api.Expr{n.Of}
	case *api.Subquery:
		return []api.Expr{n.X}
	case *api.Unary:
		return []api.Expr{n.X}
	case *api.Binary:
		return []api.Expr{n.X, n.Y}
	case *api.Call:
		return n.Args
	case *api.Aggregate:
		if n.Param != nil {
			return []api.Expr{n.Param, n.X}
		}
		return []api.Expr{n.X}
	}
	return nil
}

// visit hands on a node and all below it.
func visit(node api.Expr, see func(api.Expr)) {
	see(node)
	for _, kid := range kids(node) {
		visit(kid, see)
	}
}

// marked: a list with spare room in which marks lie.
func marked[T any](list []T, mark T) []T {
	made := append(slices.Clone(list), mark, mark)
	return made[:len(list)]
}

// markTree gives each list of a tree spare room with marks.
func markTree(x api.Tree) {
	ms := api.Matcher{Name: "mark", Op: 1}
	visit(x.Root, func(node api.Expr) {
		switch n := node.(type) {
		case *api.Selector:
			n.Matchers = marked(n.Matchers, ms)
		case *api.Binary:
			n.Labels, n.Include = marked(n.Labels, "mark"), marked(n.Include, "mark")
		case *api.Call:
			n.Args = marked(n.Args, api.Expr(&api.Number{Lexeme: "99"}))
		case *api.Aggregate:
			n.Labels = marked(n.Labels, "mark")
		}
	})
}

// room: a tree's nodes by their addresses, with all that they hold, the spare room of their lists too.
func room(x api.Tree) string {
	var b strings.Builder
	visit(x.Root, func(node api.Expr) {
		fmt.Fprintf(&b, "%p %+v ", node, node)
		switch n := node.(type) {
		case *api.Selector:
			fmt.Fprintln(&b, n.Matchers[:cap(n.Matchers)])
		case *api.Binary:
			fmt.Fprintln(&b, n.Labels[:cap(n.Labels)], n.Include[:cap(n.Include)])
		case *api.Call:
			fmt.Fprintln(&b, n.Args[:cap(n.Args)])
		case *api.Aggregate:
			fmt.Fprintln(&b, n.Labels[:cap(n.Labels)])
		}
	})
	return b.String()
}

// full: a tree with all kinds of nodes, and nothing left empty that may be filled.
func full() []api.Row {
	up := selector("up", api.When{Offset: "-1h", At: "end"}, api.Matcher{Name: "a", Op: 1, Value: "x\n"}, api.Matcher{Name: "b", Op: 4, Value: "y.*"})
	moved := api.When{Offset: "7m", At: "1e3"}
	rows := binary("==",
		aggregate("topk", true, []string{"la", "lb"}, number("1h30m"), subquery(binary("+", up, up), "1h", "5m", moved)),
		call("label_join", unary("-", window("5m", up)), text("te\"xt"), aggregate("sum", false, []string{"la"}, up)))
	rows[0].Bool, rows[0].Matching = true, api.Matching{Given: true, On: true, Labels: []string{"la", "lb"}, Card: 1, Include: []string{"ic", "id"}}
	return rows
}

// P1, rule 5: trees, selectors and matchers stay as they are, their spare room too, and what that room holds counts for nothing.
func TestGivenStays(t *testing.T) {
	f := newForest(8)
	for i := range 600 {
		rows := f.tree(1 + i%6)
		if i == 0 {
			rows = full()
		}
		x := built(t, rows)
		markTree(x)
		before := room(x)
		if got := show.Show(x); got != shown(rows) {
			t.Fatalf("Show = %q; want %q", got, shown(rows))
		}
		if after := room(x); after != before {
			t.Fatalf("Show left %s of %s", after, before)
		}
		for _, s := range tree.Selectors(x) {
			s.Matchers = marked(s.Matchers, api.Matcher{Name: "mark", Op: 9, Value: "\xff"})
			before := fmt.Sprintf("%#v", s.Matchers[:cap(s.Matchers)])
			if got := show.Selector(s) + show.Matchers(s.Matchers); got != shownSelector(s)+shownMatchers(s.Matchers) {
				t.Fatalf("Selector and Matchers: %q", got)
			}
			if after := fmt.Sprintf("%#v", s.Matchers[:cap(s.Matchers)]); after != before {
				t.Fatalf("Selector left %s of %s", after, before)
			}
		}
	}
}

// overwritten: texts in memory that is the caller's own, and a call that writes over them.
type overwritten struct {
	held [][]byte
}

func (o *overwritten) text(s string) string {
	b := []byte(s)
	o.held = append(o.held, b)
	return unsafe.String(unsafe.SliceData(b), len(b))
}

func (o *overwritten) list(names []string) []string {
	var made []string
	for _, s := range names {
		made = append(made, o.text(s))
	}
	return made
}

func (o *overwritten) matchers(ms []api.Matcher) []api.Matcher {
	var made []api.Matcher
	for _, m := range ms {
		made = append(made, api.Matcher{Name: o.text(m.Name), Op: m.Op, Value: o.text(m.Value)})
	}
	return made
}

func (o *overwritten) when(w api.When) api.When {
	return api.When{Offset: o.text(w.Offset), At: o.text(w.At)}
}

func (o *overwritten) spoil() {
	for _, b := range o.held {
		for i := range b {
			b[i] = '?'
		}
	}
}

// hold puts all texts of a node into memory of the caller's own.
func (o *overwritten) hold(node api.Expr) {
	switch n := node.(type) {
	case *api.Number:
		n.Lexeme = o.text(n.Lexeme)
	case *api.Text:
		n.Value = o.text(n.Value)
	case *api.Selector:
		n.Name, n.Matchers, n.When = o.text(n.Name), o.matchers(n.Matchers), o.when(n.When)
	case *api.Range:
		n.Dur = o.text(n.Dur)
	case *api.Subquery:
		n.Dur, n.Step, n.When = o.text(n.Dur), o.text(n.Step), o.when(n.When)
	case *api.Unary:
		n.Op = o.text(n.Op)
	case *api.Binary:
		n.Op, n.Labels, n.Include = o.text(n.Op), o.list(n.Labels), o.list(n.Include)
	case *api.Call:
		n.Name = o.text(n.Name)
	case *api.Aggregate:
		n.Op, n.Labels = o.text(n.Op), o.list(n.Labels)
	}
}

// P1, rule 5: a text that is answered doesn't lie in the memory of the texts in what was handed in.
func TestAnswersOutliveTexts(t *testing.T) {
	for _, rows := range append(tableOfRows(), full()) {
		var o overwritten
		x := built(t, rows)
		visit(x.Root, o.hold)
		got, want := show.Show(x), shown(rows)
		o.spoil()
		if got != want {
			t.Errorf("after a change of the texts: %q; want %q", got, want)
		}
	}
	for _, s := range []api.Selector{{Name: "up"}, {Matchers: []api.Matcher{{Name: "a", Op: 1, Value: "x"}}}, {Name: "up", Matchers: []api.Matcher{{Name: "a", Op: 1, Value: "x"}}, When: api.When{At: "7", Offset: "1h"}}} {
		var o overwritten
		mine := api.Selector{Name: o.text(s.Name), Matchers: o.matchers(s.Matchers), When: o.when(s.When)}
		got, braces := show.Selector(mine), show.Matchers(mine.Matchers)
		o.spoil()
		if got != shownSelector(s) || braces != shownMatchers(s.Matchers) {
			t.Errorf("after a change of the texts: %q, %q", got, braces)
		}
	}
}

// tableOfRows: the rows of each thing.
func tableOfRows() [][]api.Row {
	var list [][]api.Row
	for _, x := range things() {
		list = append(list, x.rows)
	}
	return list
}

// P1, rule 5: nothing that was asked is kept: a tree that has changed has another text.
func TestNothingKept(t *testing.T) {
	x := built(t, binary("+", number("1"), plainly("up")))
	first := show.Show(x)
	root := x.Root.(*api.Binary)
	root.Op, root.Y = "*", &api.Binary{Op: "-", X: root.X, Y: root.Y}
	if again := show.Show(x); first != "1 + up" || again != "1 * (1 - up)" {
		t.Errorf("%q, and changed %q", first, again)
	}
}

// A question is a tree and a selector.
type question struct {
	tree api.Tree
	s    api.Selector
}

func ask(q question) string {
	return strings.Join([]string{show.Show(q.tree), show.Selector(q.s), show.Matchers(q.s.Matchers)}, "\x00")
}

// questions: trees and selectors of all sorts.
func questions(t *testing.T, seed uint64) []question {
	t.Helper()
	f := newForest(seed)
	list := []question{{}}
	for i := range 200 {
		r := f.selector()[0]
		q := question{built(t, f.tree(1+i%6)), api.Selector{Name: r.Text, Matchers: r.Matchers, When: r.When}}
		if i%4 == 0 {
			q.s.Name = pick(f, odd())
		}
		list = append(list, q)
	}
	return list
}

// P1, rule 6, and P2: the same question has the same answer, whatever was asked between.
func TestSameAnswerAgain(t *testing.T) {
	list := questions(t, 9)
	var want []string
	for _, q := range list {
		want = append(want, ask(q))
	}
	for i := len(list) - 1; i >= 0; i-- {
		if got := ask(list[i]); got != want[i] {
			t.Fatalf("%q, and later %q", want[i], got)
		}
	}
}

// settled: how many goroutines there are, once those have ended that the runtime or an earlier test still had: at most n, unless one was left behind since there were n.
func settled(n int) int {
	now := runtime.NumGoroutine()
	for tries := 0; now > n && tries < 500; tries++ {
		time.Sleep(10 * time.Millisecond)
		now = runtime.NumGoroutine()
	}
	return now
}

// P1, rule 10: calls beside each other, over one tree too, answer what they would have answered alone; and no call begins a goroutine.
func TestBesideEachOther(t *testing.T) {
	list := questions(t, 10)
	var want []string
	before := runtime.NumGoroutine()
	for _, q := range list {
		want = append(want, ask(q))
	}
	if after := settled(before); after > before {
		t.Errorf("%d goroutines, and then %d", before, after)
	}
	var all sync.WaitGroup
	for g := range 8 {
		all.Go(func() {
			for i := range list {
				k := (i*(2*g+1) + g) % len(list)
				if got := ask(list[k]); got != want[k] {
					t.Errorf("%q, and beside others %q", want[k], got)
				}
			}
		})
	}
	all.Wait()
}

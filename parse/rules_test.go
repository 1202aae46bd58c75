package parse_test

import (
	"fmt"
	"runtime"
	"slices"
	"strings"
	"sync"
	"testing"
	"time"
	"unsafe"

	"weir/api"
	"weir/parse"
	"weir/tree"
)

// nodesOf: all nodes of a tree.
func nodesOf(node api.Expr) []api.Expr {
	list := []api.Expr{node}
	for _, kid := range below(node) {
		list = append(list, nodesOf(kid)...)
	}
	return list
}

// spoilList writes over a list, its spare room too.
func spoilList[T any](list []T, with T) {
	list = list[:cap(list)]
	for i := range list {
		list[i] = with
	}
}

// spoilTree writes over all that a tree is made of.
func spoilTree(x api.Tree) {
	for _, node := range nodesOf(x.Root) {
		switch n := node.(type) {
		case *api.Number:
			n.Lexeme = "99"
		case *api.Text:
			n.Value = "spoiled"
		case *api.Selector:
			spoilList(n.Matchers, api.Matcher{Name: "spoiled", Op: -1, Value: "spoiled"})
			*n = api.Selector{Name: "spoiled", When: api.When{Offset: "9h", At: "9"}}
		case *api.Range:
			*n = api.Range{}
		case *api.Subquery:
			*n = api.Subquery{}
		case *api.Unary:
			*n = api.Unary{}
		case *api.Binary:
			spoilList(n.Labels, "spoiled")
			spoilList(n.Include, "spoiled")
			*n = api.Binary{}
		case *api.Call:
			spoilList(n.Args, nil)
			*n = api.Call{}
		case *api.Aggregate:
			spoilList(n.Labels, "spoiled")
			*n = api.Aggregate{}
		}
	}
}

// A stretch of memory, from its first byte to behind its last.
type stretch struct {
	from, to uintptr
}

// memory: the stretches that things take up, and the things themselves, so that nothing newer comes to lie there.
type memory struct {
	all  []stretch
	kept []any
}

func (m *memory) piece(p unsafe.Pointer, size uintptr) {
	if size > 0 && p != nil {
		m.all = append(m.all, stretch{uintptr(p), uintptr(p) + size})
	}
}

func (m *memory) texts(list ...string) {
	for _, s := range list {
		m.piece(unsafe.Pointer(unsafe.StringData(s)), uintptr(len(s)))
	}
	m.kept = append(m.kept, list)
}

func listOf[T any](m *memory, list []T) {
	var one T
	m.piece(unsafe.Pointer(unsafe.SliceData(list)), uintptr(cap(list))*unsafe.Sizeof(one))
	m.kept = append(m.kept, list)
}

func (m *memory) names(list []string) {
	listOf(m, list)
	m.texts(list...)
}

func nodeAt[T any](m *memory, n *T) {
	m.piece(unsafe.Pointer(n), unsafe.Sizeof(*n))
	m.kept = append(m.kept, n)
}

func (m *memory) tree(x api.Tree) {
	for _, node := range nodesOf(x.Root) {
		switch n := node.(type) {
		case *api.Number:
			nodeAt(m, n)
			m.texts(n.Lexeme)
		case *api.Text:
			nodeAt(m, n)
			m.texts(n.Value)
		case *api.Selector:
			nodeAt(m, n)
			m.texts(n.Name, n.Offset, n.At)
			listOf(m, n.Matchers)
			for _, k := range n.Matchers {
				m.texts(k.Name, k.Value)
			}
		case *api.Range:
			nodeAt(m, n)
			m.texts(n.Dur)
		case *api.Subquery:
			nodeAt(m, n)
			m.texts(n.Dur, n.Step, n.Offset, n.At)
		case *api.Unary:
			nodeAt(m, n)
			m.texts(n.Op)
		case *api.Binary:
			nodeAt(m, n)
			m.texts(n.Op)
			m.names(n.Labels)
			m.names(n.Include)
		case *api.Call:
			nodeAt(m, n)
			m.texts(n.Name)
			listOf(m, n.Args)
		case *api.Aggregate:
			nodeAt(m, n)
			m.texts(n.Op)
			m.names(n.Labels)
		}
	}
}

// shared: two stretches that share a byte.
func (m *memory) shared() (string, bool) {
	slices.SortFunc(m.all, func(a, b stretch) int {
		if a.from < b.from {
			return -1
		}
		return 1
	})
	for i := 1; i < len(m.all); i++ {
		if m.all[i].from < m.all[i-1].to {
			return fmt.Sprint(m.all[i-1], m.all[i]), true
		}
	}
	return "", false
}

// full: a query with all kinds of nodes, and nothing left empty that may be filled; much of it stands there twice.
const full = `(topk without (la, lb) (1h30m, up{aa="xx",bb!~'yy.*'}[1h:5m] offset 7m @ 1e3) == bool on (la, lb) group_left (ic, id) label_join(-up{aa="xx",bb!~"yy.*"}[5m] offset -1h @ end(), "text", sum by (la) (+up{aa="xx"} @ start())))
  or (topk without (la, lb) (1h30m, up{aa="xx",bb!~'yy.*'}[1h:5m] offset 7m @ 1e3) == bool on (la, lb) group_left (ic, id) label_join(-up{aa="xx",bb!~"yy.*"}[5m] offset -1h @ end(), "text", sum by (la) (+up{aa="xx"} @ start())))`

// P1, rule 5, and the chapter's last words of its functions: trees share no memory with one another, within themselves, or with the text.
func TestTreesShareNothing(t *testing.T) {
	var m memory
	given, one := strings.Clone(full), strings.Clone(`up{aa="xx",bb!~"yy.*",aa="xx"}`)
	m.texts(given, one)
	for range 3 {
		x := built(t, given)
		m.tree(x)
		y, _, e := parse.Selector(one)
		z := built(t, one)
		if e != api.OK {
			t.Fatal(e)
		}
		m.tree(y)
		m.tree(z)
	}
	if two, yes := m.shared(); yes {
		t.Errorf("the stretches %s share memory", two)
	}
	if len(m.all) < 300 {
		t.Errorf("%d stretches", len(m.all))
	}
	runtime.KeepAlive(m.kept)
}

// P1, rule 5: by chance, no two lists and no two nodes are one.
func TestTreesShareNothingByChance(t *testing.T) {
	w := newWriter(8)
	taken := 0
	for range 500 {
		s := w.spread(w.query(60))
		x, _, e := parse.Parse(s)
		y, _, _ := parse.Parse(s)
		if e != api.OK {
			continue
		}
		taken++
		want := told(y.Root)
		spoilTree(x)
		if got := told(y.Root); got != want {
			t.Fatalf("%q: %s has become %s", s, want, got)
		}
		seen := map[api.Expr]bool{}
		for _, node := range nodesOf(y.Root) {
			if seen[node] {
				t.Fatalf("%q: a node stands in its tree twice", s)
			}
			seen[node] = true
		}
	}
	if taken < 200 {
		t.Errorf("%d taken", taken)
	}
}

// P1, rule 5: a tree doesn't lie in the memory of its text.
func TestTreesOutliveTexts(t *testing.T) {
	for _, s := range append(samples(), full) {
		b := []byte(s)
		given := unsafe.String(unsafe.SliceData(b), len(b))
		x, _, e := parse.Parse(given)
		y, _, _ := parse.Selector(given)
		if e != api.OK || string(b) != s {
			t.Fatalf("%q: %d", s, e)
		}
		for i := range b {
			b[i] = '?'
		}
		if got, want := told(x.Root), wanted("query", s).told; got != want {
			t.Errorf("after a change of its text, the tree is %s, not %s", got, want)
		}
		if got, want := told(y.Root), wanted("selector", s).told; got != want {
			t.Errorf("after a change of its text, the selector is %s, not %s", got, want)
		}
	}
}

// P1, rules 1 and 3: no text makes a call panic, and beside an error there is no tree.
func TestTotal(t *testing.T) {
	w := newWriter(9)
	pieces := append(vocabulary(), "$", "!", "5mm", "'x", "\xff", "\x00", "é", "#", "\n", "\\", "\"", ";", "..", "1e999", "0x", "'\xff'", "inf", "NaN", "")
	counts := map[api.Errno]int{}
	for range 6000 {
		s := ""
		for range w.dice.IntN(12) {
			s += w.one(pieces) + w.one([]string{" ", "", " "})
		}
		got, _ := agree(t, s)
		counts[got.e]++
	}
	for range 3000 {
		b := []byte(w.text(30))
		for range 1 + w.dice.IntN(3) {
			if len(b) > 0 {
				b[w.dice.IntN(len(b))] = byte(w.dice.IntN(256))
			}
		}
		got, _ := agree(t, string(b))
		counts[got.e]++
	}
	for e, least := range map[api.Errno]int{api.OK: 100, api.ErrEnd: 50, api.ErrSyntax: 1000, api.ErrChar: 500, api.ErrLexeme: 100, api.ErrLiteral: 100} {
		if counts[e] < least {
			t.Errorf("error %d: %d times", e, counts[e])
		}
	}
}

// P1, rule 1, and P13.1: texts of MaxText bytes, and longer ones.
func TestLongTexts(t *testing.T) {
	const most = api.MaxText
	name := strings.Repeat("n", most)
	if x, place, e := parse.Parse(name); e != api.OK || place != 0 || x.Root.(*api.Selector).Name != name {
		t.Errorf("a long name: %d at %d", e, place)
	}
	if x, place, e := parse.Selector(name); e != api.OK || place != 0 || x.Root.(*api.Selector).Name != name {
		t.Errorf("a long selector: %d at %d", e, place)
	}
	for _, c := range []struct {
		text  string
		place int
		e     api.Errno
	}{
		{name + "n", 0, api.ErrLong},
		{strings.Repeat(")", most+1), 0, api.ErrLong},
		{strings.Repeat(" ", most), most, api.ErrEnd},
		{"(" + strings.Repeat("\n", most-1), most, api.ErrEnd},
		{"{" + name[2:] + ")", most - 1, api.ErrSyntax},
		{name[4:] + " up2", most - 3, api.ErrSyntax},
		{"(" + name[3:] + ")[", most, api.ErrEnd},
	} {
		if got := parsed(c.text); got != (answer{"none", c.place, c.e}) {
			t.Errorf("%.20q of %d bytes: %+v", c.text, len(c.text), got)
		}
	}
	if _, place, e := parse.Selector(name + "n"); e != api.ErrLong || place != 0 {
		t.Errorf("a selector that is too long: %d at %d", e, place)
	}
	value := "{a='" + name[6:] + "'}"
	if x, _, e := parse.Selector(value); e != api.OK || len(tree.Selectors(x)[0].Matchers[0].Value) != most-6 {
		t.Errorf("a long value: %d", e)
	}
}

// P1, rule 1: texts of very many tokens, below one another and beside one another.
func TestManyTokens(t *testing.T) {
	const n = 200000
	for _, c := range []struct {
		text  string
		place int
		e     api.Errno
	}{
		{strings.Repeat("-", n) + "1", 0, api.ErrDepth},
		{strings.Repeat("-", n), n, api.ErrEnd},
		{strings.Repeat("+-", n) + ")", 2 * n, api.ErrSyntax},
		{strings.Repeat("1^", n) + "1", 0, api.ErrDepth},
		{strings.Repeat("1^-", n) + "1", 0, api.ErrDepth},
		{strings.Repeat("1^", n), 2 * n, api.ErrEnd},
		{strings.Repeat("1+", n) + "1", 0, api.ErrDepth},
		{strings.Repeat("1 or ", n) + "1", 0, api.ErrDepth},
		{strings.Repeat("1 or 2 and 3 == 4 + 5 * 6 ^ ", n/8) + "1", 0, api.ErrDepth},
		{"up" + strings.Repeat("[5m:]", n), 0, api.ErrDepth},
		{"up" + strings.Repeat("[5m:]", n) + "[5m]", 5*n + 5, api.ErrModifier},
		{"up" + strings.Repeat("[5m:] offset 5m", n/4) + " @ 1", 0, api.ErrDepth},
		{strings.Repeat("(", n), 300, api.ErrBrackets},
		{strings.Repeat("f(", n), 601, api.ErrBrackets},
		{strings.Repeat("sum by (a) (1, ", n), 15*300 + 7, api.ErrBrackets},
		{strings.Repeat("{", n), 1, api.ErrSyntax},
		{strings.Repeat("up[", n), 3, api.ErrSyntax},
		{strings.Repeat(")", n), 0, api.ErrSyntax},
		{strings.Repeat("up ", n), 3, api.ErrSyntax},
		{"up" + strings.Repeat(" offset 5m", n), 13, api.ErrModifier},
		{"f(" + strings.Repeat("-", n) + "1," + strings.Repeat("-", n) + "1)", 0, api.ErrDepth},
		{strings.Repeat("-(", 300) + strings.Repeat("-", n) + "1" + strings.Repeat(")", 300), 0, api.ErrDepth},
		{strings.Repeat("1^(", 300) + strings.Repeat("1+", n) + "1" + strings.Repeat(")", 300), 0, api.ErrDepth},
	} {
		if got := parsed(c.text); got != (answer{"none", c.place, c.e}) {
			t.Errorf("%.20q of %d bytes: %+v", c.text, len(c.text), got)
		}
	}
	call := built(t, "f("+strings.Repeat("up, ", n/4)+"up)")
	if tree.Nodes(call) != n/4+2 || tree.Depth(call) != 2 {
		t.Errorf("a call: %d nodes", tree.Nodes(call))
	}
	group := built(t, "sum by ("+strings.Repeat("la,", n)+") (up) * on ("+strings.Repeat("lb,", n)+") group_left ("+strings.Repeat("lc,", n)+") up")
	if rows := tree.Rows(group); len(rows[0].Matching.Labels) != n || len(rows[0].Matching.Include) != n || len(rows[1].Labels) != n || rows[1].Labels[n-1] != "la" {
		t.Error("a grouping by many labels")
	}
	asked, _, e := parse.Selector("up{" + strings.Repeat("a='x',", n) + "}")
	if e != api.OK || len(tree.Selectors(asked)[0].Matchers) != n {
		t.Errorf("a selector with many matchers: %d", e)
	}
}

// P1, rule 6, and P2: the same text has the same answer, whatever was asked between.
func TestSameAnswerAgain(t *testing.T) {
	w := newWriter(10)
	var asked []string
	var want []answer
	for range 500 {
		s := w.text(40)
		asked = append(asked, s)
		want = append(want, parsed(s), picked(s))
	}
	for i := len(asked) - 1; i >= 0; i-- {
		if got := []answer{parsed(asked[i]), picked(asked[i])}; !slices.Equal(got, want[2*i:2*i+2]) {
			t.Fatalf("%q: %+v, and later %+v", asked[i], want[2*i:2*i+2], got)
		}
	}
}

// settled: how many goroutines there are, once those have ended that the runtime or an earlier test still had: at most n, unless one was left behind since there were n.
func settled(n int) int {
	now := runtime.NumGoroutine()
	for tries := 0; now > n && tries < 500; tries++ {
		time.Sleep(10 * time.Millisecond)
		now = runtime.NumGoroutine()
	}
	return now
}

// P1, rule 10: calls beside each other answer what they would have answered alone.
func TestBesideEachOther(t *testing.T) {
	w := newWriter(11)
	var asked []string
	var want []answer
	for range 200 {
		s := w.text(40)
		asked = append(asked, s)
		want = append(want, parsed(s), picked(s))
	}
	before := runtime.NumGoroutine()
	for i := range asked {
		parsed(asked[i])
	}
	if after := settled(before); after > before {
		t.Errorf("%d goroutines, and then %d", before, after)
	}
	var all sync.WaitGroup
	for g := range 8 {
		all.Go(func() {
			for i := range asked {
				k := (i*(2*g+1) + g) % len(asked)
				if got := []answer{parsed(asked[k]), picked(asked[k])}; !slices.Equal(got, want[2*k:2*k+2]) {
					t.Errorf("%q: %+v, and beside others %+v", asked[k], want[2*k:2*k+2], got)
				}
			}
		})
	}
	all.Wait()
}

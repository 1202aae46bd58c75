package index_test

import (
	"cmp"
	"fmt"
	"math"
	"runtime"
	"slices"
	"strings"
	"sync"
	"testing"
	"time"
	"unsafe"

	"weir/api"
	"weir/index"
)

// quick: the time that a call takes must be no more than one that goes through what it is given once, or nearly so, could take on a slow machine.
func quick(t *testing.T, what string, call func()) {
	t.Helper()
	begin := time.Now()
	call()
	if took := time.Since(begin); took > 20*time.Second {
		t.Errorf("%s: %s", what, took)
	}
}

// great: very many sets: each has an id of its own, all one job, and one in a thousand is of the environment x.
func great(n int) [][]api.Label {
	var sets [][]api.Label
	for i := range n {
		env := "y"
		if i%1000 == 0 {
			env = "x"
		}
		sets = append(sets, set("env", env, "id", fmt.Sprint(i), "job", "j"))
	}
	return sets
}

// P1, rule 1: very many sets; and finding few of them doesn't go through them all, however often it is asked.
func TestGreatestIndex(t *testing.T) {
	const n = 200000
	sets := great(n)
	var x *index.Index
	quick(t, "New", func() { x = made(t, sets) })
	quick(t, "Names, Values and Ids of all", func() {
		if got := x.Values("id"); len(got) != n || !slices.IsSorted(got) || len(x.Names()) != 3 {
			t.Errorf("%d values", len(got))
		}
		if len(x.Ids("job", "j")) != n || len(x.Ids("job", "")) != 0 || len(x.Ids("zone", "")) != n {
			t.Error("Ids of very many sets")
		}
	})
	quick(t, "Find of few", func() {
		for i := range n {
			ms := []api.Matcher{match("env", api.MatchNe, "x"), match("job", api.MatchEq, "j"), match("id", api.MatchEq, fmt.Sprint(i)), match("zone", api.MatchEq, ""), match("id", api.MatchNe, "none"), match("job", api.MatchEq, "j")}
			if got, e := x.Find(ms); e != 0 || len(got) != min(1, i%1000) || len(got) == 1 && got[0] != i {
				t.Fatalf("set %d: %v, %d", i, got, e)
			}
			if got := x.Ids("id", fmt.Sprint(i)); len(got) != 1 || got[0] != i {
				t.Fatalf("set %d: %v", i, got)
			}
		}
	})
	quick(t, "Find of none", func() {
		for range n {
			if got := found(t, x, match("zone", api.MatchEq, "x"), match("id", api.MatchRe, ".+"), match("id", api.MatchNre, "[a-z]")); len(got) != 0 {
				t.Fatalf("of a name that no set has: %v", got)
			}
		}
	})
	quick(t, "Find by patterns", func() {
		for _, pattern := range []string{".*", ".+", "1.*", "(?s).*7", "1|2|3"} {
			checkFind(t, x, sets, []api.Matcher{match("id", api.MatchRe, pattern), match("env", api.MatchNre, "x")})
		}
	})
	if y, e := index.New(append(sets, set("a", ""))); y != nil || e != api.ErrLabels {
		t.Errorf("New of very many sets, the last wrong: %d", e)
	}
}

// P1, rule 1: a set of very many labels, long values, very many matchers.
func TestGreatestSets(t *testing.T) {
	const n = 200000
	var wide []api.Label
	var ms []api.Matcher
	for i := range n {
		name := fmt.Sprintf("a%07d", i)
		wide = append(wide, api.Label{Name: name, Value: fmt.Sprint(i)})
		ms = append(ms, match(name, 1+i%2*2, fmt.Sprint(i)))
	}
	long := set("a", strings.Repeat("é", 1<<22))
	var x *index.Index
	quick(t, "New", func() { x = made(t, [][]api.Label{nil, wide, long}) })
	quick(t, "Find of very many matchers", func() {
		if got := found(t, x, ms...); !slices.Equal(got, []int{1}) {
			t.Errorf("%v", got)
		}
		if got, e := x.Find(append(ms, match("a", 9, ""))); e != api.ErrKind || len(got) != 0 {
			t.Errorf("%v, %d", got, e)
		}
		if names := x.Names(); len(names) != n+1 || !slices.IsSorted(names) {
			t.Errorf("%d names", len(names))
		}
		if got := x.Ids("a", long[0].Value); !slices.Equal(got, []int{2}) {
			t.Errorf("a long value: %v", got)
		}
	})
}

// P1, rule 1: very long lists, in no order.
func TestGreatestLists(t *testing.T) {
	const n = 1 << 20
	var a, b []int
	for i := range n {
		a, b = append(a, i*7919%n), append(b, i*104729%n*2)
	}
	quick(t, "And, Or and Without", func() {
		if got := index.And(a, b); len(got) != n/2 || got[1] != 2 {
			t.Errorf("And: %d numbers", len(got))
		}
		if got := index.Or(a, b); len(got) != n+n/2 || got[n] != n {
			t.Errorf("Or: %d numbers", len(got))
		}
		if got := index.Without(a, b); len(got) != n/2 || got[1] != 3 {
			t.Errorf("Without: %d numbers", len(got))
		}
		same := make([]int, n)
		if len(index.And(same, a)) != 1 || len(index.Or(same, same)) != 1 || len(index.Without(same, same)) != 0 {
			t.Error("a number very many times")
		}
	})
}

// P1, rule 1: no call panics, and each one answers by its words, whatever it is given.
func TestTotal(t *testing.T) {
	c := newChance(10)
	ops := []int{0, 1, 2, 3, 4, 5, -1, math.MaxInt, math.MinInt, 1 << 32}
	for range 4000 {
		var sets [][]api.Label
		for range c.dice.IntN(4) {
			var ls []api.Label
			for range c.dice.IntN(3) {
				ls = append(ls, api.Label{Name: pick(c, names()), Value: pick(c, values())})
			}
			sets = append(sets, ls)
		}
		checkNew(t, sets)
		good := c.sets(4, false)
		x := made(t, good)
		m := api.Matcher{Name: pick(c, names()), Op: pick(c, ops), Value: pick(c, append(values(), wrongPatterns()...))}
		checkFind(t, x, good, []api.Matcher{m})
		checkFind(t, x, good, []api.Matcher{c.matcher(false), m})
		checkIds(t, x, good, pick(c, names()), pick(c, values()))
	}
}

// A question is all that the calls may be given.
type question struct {
	sets        [][]api.Label
	name, value string
	ms          []api.Matcher
	a, b        []int
}

// An answer is all that they answer to it.
type answer struct {
	numbers [][]int
	texts   [][]string
	plain   string // what isn't memory
}

// put: what an index answers to a question, and what the lists' calls do.
func put(x *index.Index, q question) answer {
	ids, e := x.Find(q.ms)
	return answer{
		numbers: [][]int{ids, x.Ids(q.name, q.value), x.Ids(q.name, ""), index.And(q.a, q.b), index.Or(q.a, q.b), index.Without(q.a, q.b)},
		texts:   [][]string{x.Names(), x.Values(q.name)},
		plain:   fmt.Sprint(x.Len(), e),
	}
}

// ask: what the index of a question's sets answers to it.
func ask(q question) answer {
	x, e := index.New(q.sets)
	r := put(x, q)
	r.plain += fmt.Sprint(" ", e)
	return r
}

func (r answer) String() string { return fmt.Sprintf("%v %q %s", r.numbers, r.texts, r.plain) }

func (c chance) question(slips bool) question {
	return question{sets: c.sets(8, slips), name: pick(c, goodNames()), value: pick(c, goodValues()), ms: c.matchers(2, slips), a: c.numbers(6), b: c.numbers(6)}
}

// P1, rules 3 and 4: beside an error there is nothing; an empty list is as good as nil.
func TestNothing(t *testing.T) {
	c := newChance(11)
	for range 300 {
		q := c.question(false)
		for range 2 {
			q.sets = append(q.sets, nil, []api.Label{}, set("a", "1")[:0])
		}
		q.ms = nil
		want := ask(q).String()
		q.ms = []api.Matcher{}
		for i, ls := range q.sets {
			if len(ls) == 0 {
				q.sets[i] = []api.Label{}
			}
		}
		if got := ask(q).String(); got != want {
			t.Fatalf("%s, and with empty lists %s", want, got)
		}
	}
	if x, e := index.New([][]api.Label{nil, set("a", "1"), set("a", "")}); x != nil || e != api.ErrLabels {
		t.Errorf("New = %v, %d", x, e)
	}
	if ids, e := made(t, example()).Find([]api.Matcher{match("job", api.MatchEq, "a"), match("job", 0, "")}); len(ids) != 0 || e != api.ErrKind {
		t.Errorf("Find = %v, %d", ids, e)
	}
}

// marked: a list with spare room in which marks lie.
func marked[T any](list []T, mark T) []T {
	made := append(slices.Clone(list), mark, mark)
	return made[:len(list)]
}

// mark gives each list of a question spare room with marks.
func (q *question) mark() {
	for i := range q.sets {
		q.sets[i] = marked(q.sets[i], api.Label{Name: "mark", Value: "x"})
	}
	q.sets = marked(q.sets, set("mark", ""))
	q.ms = marked(q.ms, api.Matcher{Name: "mark", Op: 9})
	q.a, q.b = marked(q.a, -99), marked(q.b, 0)
}

// room: all that a question's lists hold, their spare room too.
func (q question) room() string {
	var b strings.Builder
	fmt.Fprintln(&b, q.sets[:cap(q.sets)], q.ms[:cap(q.ms)], q.a[:cap(q.a)], q.b[:cap(q.b)])
	for _, ls := range q.sets {
		fmt.Fprintln(&b, ls[:cap(ls)])
	}
	return b.String()
}

// P1, rule 5: what is handed in stays as it is, its spare room too, and what that room holds counts for nothing.
func TestGivenStays(t *testing.T) {
	c := newChance(12)
	for i := range 3000 {
		q := c.question(i%2 == 0)
		want := ask(q).String()
		q.mark()
		before := q.room()
		if got := ask(q).String(); got != want {
			t.Fatalf("%s, and with marks behind the lists %s", want, got)
		}
		if after := q.room(); after != before {
			t.Fatalf("%s is left of %s", after, before)
		}
	}
}

// overwritten: texts in memory that is the caller's own, and a call that writes over them.
type overwritten struct{ held [][]byte }

func (o *overwritten) text(s string) string {
	b := []byte(s)
	o.held = append(o.held, b)
	return unsafe.String(unsafe.SliceData(b), len(b))
}

func (o *overwritten) question(q question) question {
	mine := question{name: o.text(q.name), value: o.text(q.value), a: slices.Clone(q.a), b: slices.Clone(q.b)}
	for _, m := range q.ms {
		mine.ms = append(mine.ms, api.Matcher{Name: o.text(m.Name), Op: m.Op, Value: o.text(m.Value)})
	}
	for _, ls := range q.sets {
		var copied []api.Label
		for _, l := range ls {
			copied = append(copied, api.Label{Name: o.text(l.Name), Value: o.text(l.Value)})
		}
		mine.sets = append(mine.sets, copied)
	}
	return mine
}

// spoil writes over a question's texts and lists.
func (o *overwritten) spoil(q question) {
	for _, b := range o.held {
		for i := range b {
			b[i] = '?'
		}
	}
	for i, ls := range q.sets {
		for k := range ls {
			ls[k] = api.Label{Name: "spoilt", Value: "x"}
		}
		q.sets[i] = set("spoilt", "y")
	}
	for i := range q.ms {
		q.ms[i] = match("spoilt", api.MatchEq, "z")
	}
	clear(q.a)
	clear(q.b)
}

// P1, rule 5: what is answered doesn't change with what was handed in.
func TestAnswersOutliveGiven(t *testing.T) {
	c := newChance(13)
	for i := range 3000 {
		var o overwritten
		q := c.question(i%2 == 0)
		want := ask(q).String()
		mine := o.question(q)
		got := ask(mine)
		o.spoil(mine)
		if got.String() != want {
			t.Fatalf("%s, and after a change of what was given %s", want, got)
		}
	}
}

// P1, rule 5: an index keeps copies: it answers the same once its sets, their lists and their texts have changed; those of labels that several sets have too.
func TestIndexKeepsCopies(t *testing.T) {
	c := newChance(14)
	for range 3000 {
		var o overwritten
		q := c.question(false)
		q.sets = append(q.sets, q.sets...)
		mine := o.question(q)
		x := made(t, mine.sets)
		asked := o.question(q)
		put(x, asked)
		o.spoil(mine)
		o.spoil(asked)
		if got, want := put(x, q).String(), put(made(t, q.sets), q).String(); got != want {
			t.Fatalf("%s, and of sets changed since %s", want, got)
		}
		for _, name := range x.Names() {
			for _, value := range x.Values(name) {
				checkIds(t, x, q.sets, name, value)
			}
			checkIds(t, x, q.sets, name, "")
		}
	}
}

// P1, rule 5: an answer that is written over changes no later one.
func TestAnswersAreTheCallers(t *testing.T) {
	c := newChance(15)
	for range 2000 {
		q := c.question(false)
		x := made(t, q.sets)
		first := put(x, q)
		want := first.String()
		for _, list := range first.numbers {
			for i := range list[:cap(list)] {
				list[:cap(list)][i] = -7
			}
		}
		for _, list := range first.texts {
			clear(list[:cap(list)])
		}
		if got := put(x, q).String(); got != want {
			t.Fatalf("%s, and after a change of the answers %s", want, got)
		}
		for _, m := range q.ms {
			all := found(t, x, m)
			for i := range all {
				all[i] = -7
			}
			checkFind(t, x, q.sets, []api.Matcher{m})
		}
	}
}

// A stretch of memory, from its first byte to behind its last.
type stretch struct{ from, to uintptr }

// memory: the stretches that things take up, spare room too, and the things themselves, so that nothing newer comes to lie there.
type memory struct {
	all  []stretch
	kept []any
}

func (m *memory) add(p unsafe.Pointer, size uintptr, thing any) {
	m.kept = append(m.kept, thing)
	if size > 0 {
		m.all = append(m.all, stretch{uintptr(p), uintptr(p) + size})
	}
}

func (m *memory) text(s string) { m.add(unsafe.Pointer(unsafe.StringData(s)), uintptr(len(s)), s) }

// addList: a list's memory, its spare room too.
func addList[T any](m *memory, list []T) {
	var x T
	m.add(unsafe.Pointer(unsafe.SliceData(list)), uintptr(cap(list))*unsafe.Sizeof(x), list)
}

func (m *memory) question(q question) {
	addList(m, q.a)
	addList(m, q.b)
	addList(m, q.ms)
	addList(m, q.sets)
	for _, ls := range q.sets {
		addList(m, ls)
		for _, l := range ls {
			m.text(l.Name)
			m.text(l.Value)
		}
	}
	for _, x := range q.ms {
		m.text(x.Name)
		m.text(x.Value)
	}
	m.text(q.name)
	m.text(q.value)
}

func (m *memory) answer(r answer) {
	for _, list := range r.numbers {
		addList(m, list)
	}
	for _, list := range r.texts {
		addList(m, list)
		for _, s := range list {
			m.text(s)
		}
	}
}

// shared: do two stretches share a byte?
func (m *memory) shared() bool {
	slices.SortFunc(m.all, func(a, b stretch) int { return cmp.Compare(a.from, b.from) })
	for i := 1; i < len(m.all); i++ {
		if m.all[i].from < m.all[i-1].to {
			return true
		}
	}
	return false
}

// P1, rule 5: no two of what is handed in and what is answered, now or to the same question again, share memory.
func TestNewMemory(t *testing.T) {
	c, stretches := newChance(16), 0
	for range 500 {
		var o overwritten
		var m memory
		q := o.question(c.question(false))
		x := made(t, q.sets)
		m.question(q)
		m.answer(put(x, q))
		m.answer(put(x, q))
		if m.shared() {
			t.Fatalf("memory is shared in the answers to %+v", q)
		}
		stretches += len(m.all)
		runtime.KeepAlive(m.kept)
		runtime.KeepAlive(x)
	}
	if stretches < 20000 {
		t.Errorf("%d stretches", stretches)
	}
}

// P1, rule 6, and P2: the same question has the same answer, whatever was asked between, of the same index or of a new one.
func TestSameAnswerAgain(t *testing.T) {
	c := newChance(17)
	var list []question
	var want []string
	for i := range 500 {
		list = append(list, c.question(i%2 == 0))
		want = append(want, ask(list[i]).String())
	}
	for range 3 {
		for i := len(list) - 1; i >= 0; i-- {
			if got := ask(list[i]).String(); got != want[i] {
				t.Fatalf("%s, and later %s", want[i], got)
			}
		}
	}
	x := made(t, c.sets(100, false))
	for i := range list {
		want[i] = put(x, list[i]).String()
	}
	for i := len(list) - 1; i >= 0; i-- {
		if got := put(x, list[i]).String(); got != want[i] {
			t.Fatalf("%s, and later %s", want[i], got)
		}
	}
}

// settled: how many goroutines there are, once those have ended that the runtime or an earlier test still had: at most n, unless one was left behind since there were n.
func settled(n int) int {
	now := runtime.NumGoroutine()
	for tries := 0; now > n && tries < 500; tries++ {
		time.Sleep(10 * time.Millisecond)
		now = runtime.NumGoroutine()
	}
	return now
}

// P1, rule 10: calls beside each other, over the same lists and the same index too, answer what they would have answered alone; and no call begins a goroutine.
func TestBesideEachOther(t *testing.T) {
	c := newChance(18)
	var list []question
	var alone, want []string
	before := runtime.NumGoroutine()
	x := made(t, c.sets(100, false))
	for i := range 200 {
		list = append(list, c.question(i%2 == 0))
		want = append(want, ask(list[i]).String())
		alone = append(alone, put(x, list[i]).String())
	}
	if after := settled(before); after > before {
		t.Errorf("%d goroutines, and then %d", before, after)
	}
	var all sync.WaitGroup
	for g := range 8 {
		all.Go(func() {
			for i := range list {
				k := (i*(2*g+1) + g) % len(list)
				if got := ask(list[k]).String(); got != want[k] {
					t.Errorf("%s, and beside others %s", want[k], got)
				}
				if got := put(x, list[k]).String(); got != alone[k] {
					t.Errorf("%s, and beside others %s", alone[k], got)
				}
			}
		})
	}
	all.Wait()
}

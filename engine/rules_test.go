package engine_test

import (
	"cmp"
	"fmt"
	"math"
	"runtime"
	"slices"
	"strings"
	"sync"
	"testing"
	"time"
	"unsafe"

	"weir/api"
	"weir/engine"
	"weir/store"
)

// A question is all that the calls may be given.
type question struct {
	d                api.Dataset
	query            string
	at               int64
	start, end, step int64
}

func (c chance) question(slips bool) question {
	q := question{d: c.dataset(10), query: c.query(4), at: int64(c.dice.IntN(500000)), start: int64(c.dice.IntN(200000)), step: 60000}
	q.end = q.start + int64(c.dice.IntN(300000))
	if slips {
		q.at = c.instant()
		q.step = pick[int64](c, 0, -1, 10, 30000, math.MaxInt64)
		if c.yes() {
			q.query = c.spoilt(q.query)
		}
	}
	return q
}

// An answer is all that they answer to it.
type answer struct {
	results []api.Result
	text    string
}

// put: what is answered to a question over a store.
func put(s *store.Store, q question) answer {
	a, e := engine.Instant(s, q.query, q.at)
	b, f := engine.Range(s, q.query, q.start, q.end, q.step)
	toll, g := engine.Toll(s, q.query, q.at)
	n, h := engine.Steps(q.start, q.end, q.step)
	text := fmt.Sprintln(told(a, e), told(b, f), toll, int(g), n, int(h))
	return answer{[]api.Result{a, b}, text}
}

// retold: an answer's results as a text, as they are now.
func (a answer) retold() string { return told(a.results[0], 0) + told(a.results[1], 0) }

// quick: the time that a call takes must be no more than one that goes through what it is given once, or nearly so, could take on a slow machine.
func quick(t *testing.T, what string, call func()) {
	t.Helper()
	begin := time.Now()
	call()
	if took := time.Since(begin); took > 20*time.Second {
		t.Errorf("%s: %s", what, took)
	}
}

func extremes() []int64 {
	return []int64{math.MinInt64, math.MinInt64 + 1, api.MinTime - 1, api.MinTime, api.MinTime + 1, -300000, -1, 0, 1, 60000, 300000, api.MaxTime - 1, api.MaxTime, api.MaxTime + 1, math.MaxInt64 - 1, math.MaxInt64}
}

// soup: tokens, or bytes, without any order.
func (c chance) soup() string {
	tokens := []string{"up", "x", "(", ")", "(", ")", "[", "]", "{", "}", "5m", ":", "1", "+", "-", "*", "^", "==", "bool", "and", "or", "on", "by", "offset", "@", "start", "end", "sum", "rate", "time", "sort", "absent", `"a"`, "a", "=", "=~", ",", "nan", "\xff", "\x00", "é", "#", "\n", " "}
	var b strings.Builder
	for range c.dice.IntN(14) {
		b.WriteString(pick(c, tokens...))
		b.WriteString(pick(c, "", " "))
	}
	return b.String()
}

// P1, rule 1: no call panics, and each one answers by its words, whatever it is given.
func TestTotal(t *testing.T) {
	c := newChance(10)
	c.ends = true
	told := map[api.Errno]int{}
	for i := range 20000 {
		var d api.Dataset
		s := (*store.Store)(nil)
		if c.yes() {
			d = c.dataset(5)
			s = load(d)
		}
		query := c.soup()
		if i%3 == 0 {
			query = c.query(3)
		}
		told[checkInstant(t, s, d, query, pick(c, extremes()...))]++
		told[checkRange(t, s, d, query, pick(c, extremes()...), pick(c, extremes()...), pick(c, extremes()...))]++
	}
	if len(told) < 12 || told[0] < 1000 {
		t.Errorf("%v", told)
	}
}

// verifyQuickly: as verify, and without taking long; of answers that are long only how they begin is looked at.
func verifyQuickly(t *testing.T, s *store.Store, asks ...ask) {
	t.Helper()
	for _, a := range asks {
		quick(t, a.query[:min(len(a.query), 60)], func() {
			if got := instant(s, a.query, a.at); !strings.HasPrefix(got, a.want) {
				t.Errorf("%.200q at %d: %s; want %s", a.query, a.at, short(got), short(a.want))
			}
		})
	}
}

// P1, rule 1: the longest texts, the deepest trees, the longest lists come to an end; what is longer or deeper is refused.
func TestGreatestQueries(t *testing.T) {
	s := loaded(`x{a="1"} 0:1`)
	const long = api.MaxText
	signs := strings.Repeat("-", api.MaxDepth-1)
	verifyQuickly(t, s,
		ask{`x` + strings.Repeat(" ", long-1), 0, `vector at 0: x{a="1"} 1`},
		ask{`x` + strings.Repeat(" ", long), 0, `error 1`},
		ask{`"` + strings.Repeat("a", long-2) + `"`, 0, `string at 0: "aaaa`},
		ask{`"` + strings.Repeat("a", long-1) + `"`, 0, `error 1`},
		ask{`x{a="` + strings.Repeat("1", long-7) + `"}`, 0, `vector at 0:`},
		ask{`absent(x{b="` + strings.Repeat("1", long-16) + `"})`, 0, `vector at 0: {b="1111`},
		ask{strings.Repeat("\xff", long), 0, `error 110`},
		ask{strings.Repeat("(", 1<<20), 0, `error 132`},
		ask{strings.Repeat("1+", 1<<20), 0, `error 131`},
		ask{strings.Repeat("1+", 1<<20) + "1", 0, `error 3`},
		ask{signs + `1`, 0, `scalar at 0: -1`},
		ask{signs + `-1`, 0, `error 3`},
		ask{signs + `x`, 0, `vector at 0: {a="1"} -1`},
		ask{strings.Repeat("abs(", api.MaxDepth-1) + `x` + strings.Repeat(")", api.MaxDepth-1), 0, `vector at 0: {a="1"} 1`},
		ask{strings.Repeat("1 + ", api.MaxDepth-1) + `1`, 0, `scalar at 0: 128`},
		ask{`x{` + strings.Repeat(`a="1",`, 1<<18) + `}`, 0, `vector at 0: x{a="1"} 1`},
		ask{`absent(x{` + strings.Repeat(`a="2",b="1",`, 1<<17) + `})`, 0, `vector at 0: {a="2", b="1"} 1`},
		ask{`sum by (` + strings.Repeat(`a,`, 1<<20) + `) (x)`, 0, `vector at 0: {a="1"} 1`},
		ask{`x * on (` + strings.Repeat(`a,`, 1<<20) + `) group_left (` + strings.Repeat(`b,`, 1<<18) + `) x`, 0, `vector at 0: {a="1"} 1`},
		ask{`label_join(x, "b", "", ` + strings.Repeat(`"a",`, api.MaxMade) + `"c")`, 0, `vector at 0: x{a="1", b="1111`},
		ask{`label_join(x, "b", "", ` + strings.Repeat(`"a",`, api.MaxMade) + `"a")`, 0, `error 1`},
		ask{`label_join(x, "b", "", ` + strings.Repeat(`"c",`, api.MaxToll-6) + `"a")`, 0, `error 240`},
		ask{`label_join(x, "b", "", ` + strings.Repeat(`"c",`, api.MaxToll-7) + `"a")`, 0, `vector at 0: x{a="1", b="1"} 1`},
	)
}

// P1, rule 1: subqueries within each other, as deep as may be, come to an end: by their depth, or by their toll.
func TestGreatestSubqueries(t *testing.T) {
	nest := func(depth int, window string) string {
		query := `x`
		for range depth {
			query = `last_over_time((` + query + `)` + window + `)`
		}
		return query
	}
	s := loaded(`x 0:1`)
	verifyQuickly(t, s,
		ask{nest(63, `[1ms:1ms]`), 0, `vector at 0: x 1`},
		ask{nest(64, `[1ms:1ms]`), 0, `error 3`},
		ask{nest(63, `[2ms:1ms]`), 1, `error 240`},
		ask{nest(63, `[10000y:1ms]`), 0, `error 240`},
		ask{nest(63, `[10000y:10000y]`), 0, `vector at 0: x 1`},
		ask{nest(63, `[10000y:10000y] offset 10000y`), 0, `vector at 0:`},
		ask{nest(63, `[10000y:10000y] offset -10000y`), api.MaxTime, `vector at 253402300799999:`},
	)
}

// P1, rule 1: queries that cost nearly as much as may be come to an end soon, over the greatest stores too.
func TestDearestQueries(t *testing.T) {
	d := heavy(999)
	for i := range d.Series {
		d.Series[i].Points = dense(99).Points
	}
	d.Series = append(d.Series, dense(1000))
	s := load(d)
	verifyQuickly(t, s,
		ask{`max_over_time(x[240ms:1ms] @ 0)`, 0, `vector at 0: {n="0"} 98; {n="1"} 98`},
		ask{`rate(x[240ms:1ms])`, 0, `vector at 0: {n="0"} `},
		ask{`sum_over_time(sum(x)[240ms:1ms])`, 0, `vector at 0: {} `},
		ask{`sum_over_time((x * on (n) x)[120ms:1ms])`, 0, `vector at 0: {n="0"} `},
		ask{`sum_over_time(label_replace(x, "b", "$1", "n", "(.*)")[200ms:1ms])`, 0, `vector at 0: {b="0", n="0"} `},
		ask{`sum_over_time(sum_over_time(x[1ms])[200ms:1ms])`, 0, `vector at 0: {n="0"} `},
		ask{`x or x or x or x or x or x or x or x or x or x or x or x or x or x or x or x or x or x or x or x`, 0, `vector at 0: x{n="0"} 98`},
		ask{`count_over_time(x[1s])`, 0, `vector at 0: {n="0"} 99`},
		ask{`count_over_time(dense[10m] @ 0)[490ms:1ms]`, 0, `matrix at 0: {} -489:1000 -488:1000`},
		ask{`(` + strings.Repeat(`x + `, 120) + `x)`, 0, `vector at 0: {n="0"} 11858`},
		ask{`sum_over_time(vector(0.` + strings.Repeat("3", api.MaxNumber-2) + `)[100s:1ms])`, 0, `vector at 0: {} 33333.333`},
	)
	// A selector that is long to read is asked for very often.
	verifyQuickly(t, s, ask{`count_over_time((none{` + strings.Repeat(`a=~"(a|b)*c{1,100}",`, 1000) + `} or vector(1))[100s:1ms])`, 0, `vector at 0: {} 100000`})
	quick(t, "many steps", func() {
		a, e := engine.Range(s, `dense`, -5000, 5999, 1)
		if e != 0 || len(a.Matrix) != 1 || len(a.Matrix[0].Points) != 6999 {
			t.Errorf("%s", short(told(a, e)))
		}
		a, e = engine.Range(s, `x`, 0, 249, 1)
		if e != 0 || len(a.Matrix) != 999 || len(a.Matrix[998].Points) != 250 {
			t.Errorf("%s", short(told(a, e)))
		}
		a, e = engine.Range(s, `count_over_time(none[10000y])`, 0, 10999, 1)
		if e != 0 || len(a.Matrix) != 0 {
			t.Errorf("%s", short(told(a, e)))
		}
	})
}

// P1, rule 3: beside an error there is nothing.
func TestNothingBesideErrors(t *testing.T) {
	c, refused := newChance(11), 0
	for range 3000 {
		q := c.question(true)
		s := load(q.d)
		a, e := engine.Instant(s, q.query, q.at)
		b, f := engine.Range(s, q.query, q.start, q.end, q.step)
		toll, g := engine.Toll(s, q.query, q.at)
		n, h := engine.Steps(q.start, q.end, q.step)
		if h != 0 && n != 0 || g != 0 && toll != 0 || e != g {
			t.Errorf("%.300q: %d, %d; %d, %d; %d", q.query, n, h, toll, g, e)
		}
		for _, x := range []struct {
			a api.Result
			e api.Errno
		}{{a, e}, {b, f}} {
			if x.e != 0 {
				refused++
				if told(x.a, x.e) != fmt.Sprintf("error %d", int(x.e)) {
					t.Errorf("%.300q: %s", q.query, short(told(x.a, x.e)))
				}
			}
		}
	}
	if refused < 1000 {
		t.Errorf("%d refusals", refused)
	}
}

// overwritten: texts in memory that is the caller's own, and a call that writes over them.
type overwritten struct{ held [][]byte }

func (o *overwritten) text(s string) string {
	b := []byte(s)
	o.held = append(o.held, b)
	return unsafe.String(unsafe.SliceData(b), len(b))
}

func (o *overwritten) spoil() {
	for _, b := range o.held {
		for i := range b {
			b[i] = '?'
		}
	}
}

// P1, rules 5 and 6: what is answered doesn't change with the query's text, and the text isn't asked again.
func TestAnswersOutliveTexts(t *testing.T) {
	c := newChance(12)
	for i := range 1000 {
		var o overwritten
		q := c.question(i%4 == 0)
		s := load(q.d)
		want := put(s, q)
		mine := q
		mine.query = o.text(q.query)
		got := put(s, mine)
		kept := got.retold()
		o.spoil()
		if now := got.retold(); got.text != want.text || now != kept {
			t.Fatalf("%s, and after a change of the texts %s", kept, now)
		}
		if again := put(s, q).text; again != want.text {
			t.Fatalf("%s, and later %s", want.text, again)
		}
	}
}

// P1, rule 5: an answer that is written over changes no later one.
func TestAnswersAreTheCallers(t *testing.T) {
	c := newChance(13)
	for range 2000 {
		q := c.question(false)
		s := load(q.d)
		first := put(s, q)
		for _, a := range first.results {
			for _, x := range a.Vector {
				clear(x.Labels[:cap(x.Labels)])
			}
			for _, x := range a.Matrix {
				clear(x.Labels[:cap(x.Labels)])
				clear(x.Points[:cap(x.Points)])
			}
			clear(a.Vector[:cap(a.Vector)])
			clear(a.Matrix[:cap(a.Matrix)])
		}
		if got := put(s, q).text; got != first.text {
			t.Fatalf("%s, and after a change of the answers %s", first.text, got)
		}
	}
}

// A stretch of memory, from its first byte to behind its last.
type stretch struct{ from, to uintptr }

// memory: the stretches that things take up, spare room too, and the things themselves, so that nothing newer comes to lie there.
type memory struct {
	all  []stretch
	kept []any
}

func (m *memory) add(p unsafe.Pointer, size uintptr, thing any) {
	m.kept = append(m.kept, thing)
	if size > 0 {
		m.all = append(m.all, stretch{uintptr(p), uintptr(p) + size})
	}
}

func (m *memory) text(s string) { m.add(unsafe.Pointer(unsafe.StringData(s)), uintptr(len(s)), s) }

func addList[T any](m *memory, l []T) {
	var one T
	m.add(unsafe.Pointer(unsafe.SliceData(l)), uintptr(cap(l))*unsafe.Sizeof(one), l)
}

func (m *memory) set(ls []api.Label) {
	addList(m, ls)
	for _, l := range ls[:cap(ls)] {
		m.text(l.Name)
		m.text(l.Value)
	}
}

func (m *memory) result(a api.Result) {
	if len(a.Text) > 1 { // of each text of one byte there is one in the language itself
		m.text(a.Text)
	}
	addList(m, a.Vector)
	for _, x := range a.Vector[:cap(a.Vector)] {
		m.set(x.Labels)
	}
	addList(m, a.Matrix)
	for _, x := range a.Matrix[:cap(a.Matrix)] {
		m.set(x.Labels)
		addList(m, x.Points)
	}
}

// shared: do two stretches share a byte?
func (m *memory) shared() bool {
	slices.SortFunc(m.all, func(a, b stretch) int { return cmp.Compare(a.from, b.from) })
	for i := 1; i < len(m.all); i++ {
		if m.all[i].from < m.all[i-1].to {
			return true
		}
	}
	return false
}

// P1, rule 5: no two of a query's text, what the store was made of and what is answered, now or to the same question again, share memory; nor do two lists of one answer.
func TestNewMemory(t *testing.T) {
	c, stretches := newChance(14), 0
	queries := []string{`up`, `sort(up)`, `+sort_desc(up)`, `up[10m]`, `up[10m:1m]`, `(up or up)[10m:1m]`, `(up or down)[10m:1m]`, `last_over_time(up[10m])`, `first_over_time(up[10m:1m])`, `timestamp({A=""})`, `topk(3, up)`, `topk(3, up) or up`, `up unless down`, `absent(up{q="1"})`, `label_replace(up, "b", "x", "job", ".*")`, `label_join(up, "b", "y", "job", "job")`, `count_values("job", up)`, `up * on (job) group_left (le) up`, `"text"`, `max_over_time(down[1h])`, `timestamp(down)`}
	for i := range 3000 {
		var o overwritten
		var m memory
		q := c.question(false)
		if i%2 == 0 {
			q.query = queries[i/2%len(queries)]
		}
		q.query = o.text(q.query)
		m.text(q.query)
		s := load(q.d)
		for range 2 {
			for _, a := range put(s, q).results {
				m.result(a)
			}
		}
		for k, x := range q.d.Series {
			m.set(s.Labels(k))
			addList(&m, x.Points)
		}
		if m.shared() {
			t.Fatalf("memory is shared in the answers to %q", q.query)
		}
		stretches += len(m.all)
		runtime.KeepAlive(m.kept)
	}
	if stretches < 200000 {
		t.Errorf("%d stretches", stretches)
	}
}

// P1, rule 6, and P2: the same question has the same answer, whatever was asked between, of the same store or of a new one.
func TestSameAnswerAgain(t *testing.T) {
	c := newChance(15)
	var list []question
	var stores []*store.Store
	var want []string
	for i := range 1000 {
		list = append(list, c.question(i%4 == 0))
		stores = append(stores, load(list[i].d))
		want = append(want, put(stores[i], list[i]).text)
	}
	for i := len(list) - 1; i >= 0; i-- {
		slices.Reverse(list[i].d.Series)
		for _, s := range []*store.Store{stores[i], load(list[i].d)} {
			if got := put(s, list[i]).text; got != want[i] {
				t.Fatalf("%s, and later %s", want[i], got)
			}
		}
	}
}

// P1, rule 7, and P2: a NaN's sign and payload count for nothing, and neither does the value of a stale sample.
func TestAnyNaN(t *testing.T) {
	c := newChance(16)
	for range 1500 {
		q := c.question(false)
		want := put(load(q.d), q).text
		for _, s := range q.d.Series {
			for i, p := range s.Points {
				if p.V != p.V {
					s.Points[i].V = math.Float64frombits(math.Float64bits(p.V) ^ 1<<63 ^ 1<<7)
				}
				if p.Stale {
					s.Points[i].V = 77
				}
			}
		}
		if got := put(load(q.d), q).text; got != want {
			t.Fatalf("%s, and with another NaN %s", want, got)
		}
	}
}

// settled: how many goroutines there are, once those have ended that the runtime or an earlier test still had: at most n, unless one was left behind since there were n.
func settled(n int) int {
	now := runtime.NumGoroutine()
	for tries := 0; now > n && tries < 500; tries++ {
		time.Sleep(10 * time.Millisecond)
		now = runtime.NumGoroutine()
	}
	return now
}

// P1, rule 10: calls beside each other, over the same store too, answer what they would have answered alone; and no call leaves a goroutine behind.
func TestBesideEachOther(t *testing.T) {
	c := newChance(17)
	var list []question
	var want, alone []string
	before := runtime.NumGoroutine()
	d := c.dataset(40)
	one := load(d)
	for i := range 150 {
		list = append(list, c.question(i%4 == 0))
		want = append(want, put(load(list[i].d), list[i]).text)
		alone = append(alone, put(one, list[i]).text)
	}
	if after := settled(before); after > before {
		t.Errorf("%d goroutines, and then %d", before, after)
	}
	fresh := load(d)
	var all sync.WaitGroup
	for g := range 8 {
		all.Go(func() {
			for i := range list {
				k := (i*(2*g+1) + g) % len(list)
				if got := put(fresh, list[k]).text; got != alone[k] {
					t.Errorf("alone %s, and beside others %s", alone[k], got)
				}
				if got := put(load(list[k].d), list[k]).text; got != want[k] {
					t.Errorf("alone %s, and beside others %s", want[k], got)
				}
			}
		})
	}
	all.Wait()
}

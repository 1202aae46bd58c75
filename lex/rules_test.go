package lex_test

import (
	"fmt"
	"math"
	"math/rand/v2"
	"runtime"
	"slices"
	"strings"
	"sync"
	"testing"
	"unsafe"

	"weir/api"
	"weir/lex"
)

// askAll asks every call that takes a text.
func askAll(s string) string {
	toks, at, e := lex.Scan(s)
	w, ok := lex.Word(s)
	return fmt.Sprintf("%v %d %d %q %q %v %v %v", toks, at, e, lex.Join(toks), w, ok, lex.IsLabel(s), lex.IsMetric(s))
}

// P1, rule 1: no call panics, whatever bytes it is given.
func TestTotalBytes(t *testing.T) {
	dice := rand.New(rand.NewPCG(1, 1))
	for range 30000 {
		b := make([]byte, dice.IntN(24))
		for i := range b {
			b[i] = byte(dice.IntN(256))
		}
		askAll(string(b))
		agree(t, string(b))
		agree(t, "{"+string(b))
	}
	for _, n := range []int{math.MinInt, -1, 0, math.MaxInt} {
		if s := lex.Join([]api.Token{{Kind: n, At: n, Text: "a"}, {Kind: n, At: n}}); s != "a " {
			t.Errorf("Join of tokens with the number %d: %q", n, s)
		}
	}
}

// P1, rule 1: each call ends with texts of MaxText bytes, too.
func TestTotalLong(t *testing.T) {
	fill := func(head, body string) string {
		s := head + strings.Repeat(body, api.MaxText/len(body)+1)
		return s[:api.MaxText]
	}
	for _, c := range []struct {
		head, body string
		at         int
		e          api.Errno
		toks       int
	}{
		{"", "a", 0, api.OK, 1},
		{"a", "1", 0, api.OK, 1},
		{"", ":", 0, api.OK, 1},
		{"#", "'", 0, api.OK, 0},
		{"", "#\n", 0, api.OK, 0},
		{"", "1", 0, api.ErrLexeme, 0},
		{".", "1", 0, api.ErrLexeme, 0},
		{"1e", "1", 0, api.ErrLexeme, 0},
		{"0x", "1", 0, api.ErrLexeme, 0},
		{"1h", "1", 0, api.ErrLexeme, 0},
		{"", "1y", 0, api.ErrLexeme, 0},
		{"5", ".", 0, api.ErrLexeme, 0},
		{"", ".", 0, api.ErrChar, 0},
		{"", "!", 0, api.ErrChar, 0},
		{"", "\xff", 0, api.ErrChar, 0},
		{"'", "a", 0, api.ErrLiteral, 0},
		{"\"", "\\\"", 0, api.ErrLiteral, 0},
		{"`", "\n", 0, api.ErrLiteral, 0},
		{"", "`......`", 0, api.OK, api.MaxText / 8},
		{"", "[12345m:'.'+by:{},]#" + strings.Repeat(".", 107) + "\n", 0, api.OK, api.MaxText / 128 * 11},
	} {
		toks, at, e := lex.Scan(fill(c.head, c.body))
		if at != c.at || e != c.e || len(toks) != c.toks {
			t.Errorf("Scan of %q and many %q: %d tokens, %d, %d", c.head, c.body, len(toks), at, e)
		}
	}
	whole := "'" + strings.Repeat("x", api.MaxText-2) + "'"
	if toks, _, e := lex.Scan(whole); e != api.OK || len(toks) != 1 || toks[0].Text != whole || lex.Join(toks) != whole {
		t.Error("Scan of a string of MaxText bytes")
	}
	a := fill("", "a")
	if _, ok := lex.Word(a); ok || !lex.IsLabel(a) || !lex.IsMetric(a) || lex.IsLabel(a+"$") || lex.IsMetric(a+"$") {
		t.Error("names of MaxText bytes")
	}
}

// P1, rule 3: beside an error there are no tokens, beside OK there is no place, beside false no word.
func TestNothingBesideErrors(t *testing.T) {
	for text := range manyTexts() {
		toks, at, e := lex.Scan(text)
		if e != api.OK && len(toks) > 0 || e == api.OK && at != 0 {
			t.Fatalf("Scan(%q) = %v, %d, %d", text, toks, at, e)
		}
		if w, ok := lex.Word(text); !ok && w != "" {
			t.Fatalf("Word(%q) = %q beside false", text, w)
		}
	}
}

// P1, rule 4: nil and empty are one and the same.
func TestNilIsEmpty(t *testing.T) {
	if lex.Join(nil) != "" || lex.Join([]api.Token{}) != "" || lex.Join(make([]api.Token, 0, 5)) != "" {
		t.Error("Join of no tokens")
	}
	for _, s := range []string{"", " ", "# x"} {
		if toks, at, e := lex.Scan(s); len(toks) != 0 || at != 0 || e != api.OK {
			t.Errorf("Scan(%q) = %v, %d, %d", s, toks, at, e)
		}
	}
}

// P1, rule 5: a list of tokens stays as it is, its spare room too, and what that room holds counts for nothing.
func TestJoinLeavesItsArgument(t *testing.T) {
	room := []api.Token{{Kind: 1, Text: "a", At: 3}, {Kind: 6, Text: "+", At: 9}, {Kind: 9, Text: "mark", At: -1}, {Kind: 9, Text: "mark", At: -2}}
	before := slices.Clone(room)
	for n, want := range []string{"", "a", "a +"} {
		if got := lex.Join(room[:n]); got != want {
			t.Errorf("Join of %d tokens with marks behind them: %q", n, got)
		}
		if !slices.Equal(room, before) {
			t.Fatalf("Join of %d tokens left %v", n, room)
		}
	}
}

// P1, rule 5: what is answered doesn't change when the caller changes the list of tokens.
func TestJoinIsNew(t *testing.T) {
	for _, list := range [][]api.Token{{{Text: "one"}}, {{Text: "one"}, {Text: "two"}}} {
		s := lex.Join(list)
		want := strings.Clone(s)
		for i := range list {
			list[i] = api.Token{Text: "zzz"}
		}
		if s != want {
			t.Errorf("after a change of the list, the text is %q", s)
		}
	}
}

// texts that the caller writes over after the call, by memory that is the caller's own.
func overwritten(s string) (string, func()) {
	b := []byte(s)
	return unsafe.String(unsafe.SliceData(b), len(b)), func() {
		for i := range b {
			b[i] = '?'
		}
	}
}

// P1, rule 5: what is answered doesn't lie in the memory of the text that was asked.
func TestAnswersOutliveTheText(t *testing.T) {
	const text = "m{a=~\"x\",inf!=`y`}[5m:1m] + job:x:sum / 1.5e3 # r"
	s, spoil := overwritten(text)
	toks, _, _ := lex.Scan(s)
	spoil()
	if want := scan(text).toks; !slices.Equal(toks, want) || len(toks) != 19 {
		t.Errorf("after a change of the text, the %d tokens are %v", len(toks), toks)
	}
	for _, k := range []string{"by", "BY", "count_values"} {
		s, spoil := overwritten(k)
		w, _ := lex.Word(s)
		spoil()
		if w != strings.ToLower(k) {
			t.Errorf("after a change of the text, the word is %q", w)
		}
	}
	for _, list := range [][]string{{"single"}, {"a", "b"}} {
		var toks []api.Token
		var spoils []func()
		for _, text := range list {
			s, spoil := overwritten(text)
			toks, spoils = append(toks, api.Token{Text: s}), append(spoils, spoil)
		}
		joined := lex.Join(toks)
		for _, spoil := range spoils {
			spoil()
		}
		if joined != strings.Join(list, " ") {
			t.Errorf("after a change of the tokens, their text is %q", joined)
		}
	}
}

// A stretch of memory, from its first byte to behind its last.
type stretch struct {
	from, to uintptr
}

func stretchOf(toks []api.Token) stretch {
	p := uintptr(unsafe.Pointer(unsafe.SliceData(toks)))
	return stretch{p, p + uintptr(cap(toks))*unsafe.Sizeof(api.Token{})}
}

func stretchOfText(s string) stretch {
	p := uintptr(unsafe.Pointer(unsafe.StringData(s)))
	return stretch{p, p + uintptr(len(s))}
}

// P1, rule 5: no answer shares memory with what was handed in or with another answer, and no two Texts of one answer share any.
func TestAnswersShareNothing(t *testing.T) {
	text := strings.Clone("sum by (a, b) (rate(m{a=~\"x\",b!='y'}[5m])) / 1.5e3")
	all := []stretch{stretchOfText(text)}
	var lists [][]api.Token // what is kept lies nowhere where something newer could
	var kept []string
	for range 3 {
		toks, _, _ := lex.Scan(text)
		lists = append(lists, toks)
		all = append(all, stretchOf(toks))
		for _, k := range toks {
			all = append(all, stretchOfText(k.Text))
		}
	}
	one := []api.Token{{Text: text}}
	for range 2 {
		kept = append(kept, lex.Join(lists[0]), lex.Join(one))
	}
	for _, s := range []string{"group_left", "COUNT_VALUES"} {
		s = strings.Clone(s)
		w, _ := lex.Word(s)
		again, _ := lex.Word(s)
		kept = append(kept, s, w, again)
	}
	for _, s := range kept {
		all = append(all, stretchOfText(s))
	}
	slices.SortFunc(all, func(a, b stretch) int { return int(a.from) - int(b.from) })
	for i := 1; i < len(all); i++ {
		if all[i].from < all[i-1].to {
			t.Fatalf("the stretches %v and %v share memory", all[i-1], all[i])
		}
	}
	if len(all) < 90 {
		t.Errorf("%d stretches", len(all))
	}
	runtime.KeepAlive(lists)
	runtime.KeepAlive(kept)
}

// P1, rules 5 and 6: an answer that is written over, its spare room too, changes no other.
func TestAnswersSpoiled(t *testing.T) {
	const text = "a + b[5m:] / 'x'"
	want := scan(text).toks
	before, _, _ := lex.Scan(text)
	for range 3 {
		toks, _, _ := lex.Scan(text)
		if !slices.Equal(toks, want) || !slices.Equal(before, want) {
			t.Fatalf("%v and %v; want %v", toks, before, want)
		}
		toks = toks[:cap(toks)]
		for i := range toks {
			toks[i] = api.Token{Kind: -1, Text: "spoiled", At: -1}
		}
	}
}

// P1, rule 6, and P2: the same question has the same answer, whatever was asked between; brackets that were left open count for nothing in the next text.
func TestSameAnswerAgain(t *testing.T) {
	first := map[string]string{}
	for round := range 3 {
		for i, s := range pieces() {
			if round > 0 {
				lex.Scan([]string{"{", "[", "{[", "'", "#"}[i%5])
			}
			got := askAll(s)
			if old, asked := first[s]; asked && old != got {
				t.Fatalf("%q: %s, and later %s", s, old, got)
			}
			first[s] = got
		}
	}
}

// P1, rule 10: calls beside each other answer what they would have answered alone.
func TestBesideEachOther(t *testing.T) {
	var list, want []string
	for s := range random(300) {
		list, want = append(list, s), append(want, askAll(s))
	}
	var all sync.WaitGroup
	for g := range 8 {
		all.Go(func() {
			for i := range list {
				k := (i*(2*g+1) + g) % len(list)
				if got := askAll(list[k]); got != want[k] {
					t.Errorf("%q: %s", list[k], got)
				}
			}
		})
	}
	all.Wait()
}

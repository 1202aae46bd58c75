package utf_test

import (
	"math"
	"slices"
	"strings"
	"testing"
	"unsafe"

	"weir/api"
	"weir/utf"
)

// readers: the calls that take a text and answer a text.
func readers() map[string]func(string) (string, api.Errno) {
	return map[string]func(string) (string, api.Errno){
		"Unquote": utf.Unquote,
		"Quote":   utf.Quote,
		"Json":    utf.Json,
		"Unjson":  utf.Unjson,
	}
}

// hostile: texts that are wrong, cut short or long.
func hostile() []string {
	return []string{
		"", "\x00", "\xff", "\xc3", "\xf0\x9f\x98", "\xed\xa0\x80", `"`, `'`, "`", `\`, `"\`, `"\"`, `"\x`, `"\x"`, `"\u"`, `"\U0"`, `"\ud83d\`, `"\ud83d\u`, `"\ud83d\ude`,
		strings.Repeat("\xff", 100000), strings.Repeat(`\`, 100001), strings.Repeat(`"`, 100000), `"` + strings.Repeat(`\\`, 100000) + `"`, `"` + strings.Repeat("\n", 100000) + `"`,
	}
}

// P1, rule 1: no call panics.
func TestTotal(t *testing.T) {
	ends := []int{math.MinInt, math.MinInt + 1, -1, 0, 1, 2, 3, math.MaxInt - 1, math.MaxInt}
	for _, s := range hostile() {
		utf.Valid(s)
		utf.Runes(s)
		for range utf.All(s) {
		}
		for _, at := range ends {
			utf.Next(s, at)
			utf.Place(s, at)
			utf.Literal(s, at)
		}
		for _, read := range readers() {
			read(s)
			read(`"` + s + `"`)
			read(`"` + s)
		}
	}
	utf.Text(nil)
	utf.Text([]rune{math.MinInt32, math.MaxInt32})
}

// P1, rule 3: beside an error stands the zero value, and beside none the error's number is OK.
func TestZeroBesideAnError(t *testing.T) {
	for s := range someTexts() {
		if rs, e := utf.Runes(s); e != api.OK && len(rs) != 0 {
			t.Fatalf("Runes(%q) = %v beside error %d", s, rs, e)
		}
		for at := range len(s) + 1 {
			if end, e := utf.Literal(s, at); e != api.OK && end != 0 {
				t.Fatalf("Literal(%q, %d) = %d beside error %d", s, at, end, e)
			}
		}
		for name, read := range readers() {
			for _, lit := range []string{s, `"` + s + `"`} {
				if got, e := read(lit); e != api.OK && got != "" {
					t.Fatalf("%s(%q) = %q beside error %d", name, lit, got, e)
				}
			}
		}
	}
	if s, e := utf.Text([]rune{'a', 'b', -1}); s != "" || e == api.OK {
		t.Errorf("Text of no rune = %q beside error %d", s, e)
	}
}

// P1, rule 4: nil and empty are one.
func TestNilIsEmpty(t *testing.T) {
	s1, e1 := utf.Text(nil)
	s2, e2 := utf.Text([]rune{})
	if s1 != s2 || e1 != e2 {
		t.Errorf("Text of nil = %q, %d; of an empty list %q, %d", s1, e1, s2, e2)
	}
}

// P1, rule 5: an argument is not changed, its spare room included.
func TestTextLeavesItsArgument(t *testing.T) {
	room := []rune{97, 233, 128512, -5, -6, -7}
	for _, n := range []int{0, 3, 4} {
		utf.Text(room[:n])
		if !slices.Equal(room, []rune{97, 233, 128512, -5, -6, -7}) {
			t.Fatalf("Text of %d runes left %v", n, room)
		}
	}
}

// P1, rule 5: an answer is new memory.
func TestRunesAreNew(t *testing.T) {
	s := "a\u00e9\U0001F600"
	first, _ := utf.Runes(s)
	second, _ := utf.Runes(s)
	clear(first)
	_ = append(first, 1, 2, 3)
	if third, _ := utf.Runes(s); !slices.Equal(second, []rune{97, 233, 128512}) || !slices.Equal(third, second) {
		t.Errorf("after a change of one answer, others are %v and %v", second, third)
	}
}

func TestTextIsNew(t *testing.T) {
	rs := []rune{'a', 'b', 'c'}
	s, _ := utf.Text(rs)
	rs[0] = 'z'
	if s != "abc" {
		t.Errorf("after a change of the list, the text is %q", s)
	}
}

// share: do two texts lie in the same memory?
func share(a, b string) bool {
	if a == "" || b == "" {
		return false
	}
	pa, pb := uintptr(unsafe.Pointer(unsafe.StringData(a))), uintptr(unsafe.Pointer(unsafe.StringData(b)))
	return pa < pb+uintptr(len(b)) && pb < pa+uintptr(len(a))
}

func TestAnswersAreNewTexts(t *testing.T) {
	for name, read := range readers() {
		for _, quote := range []string{`"`, `'`, "`"} {
			lit := strings.Clone(quote + "some text without escapes" + quote)
			first, _ := read(lit)
			second, _ := read(lit)
			if share(first, lit) || share(first, second) {
				t.Errorf("%s(%s) answers memory of its argument or of another answer", name, lit)
			}
		}
	}
}

// P2: the same question has the same answer, whatever was asked between.
func TestSameAnswerAgain(t *testing.T) {
	first := map[string]string{}
	for range 2 {
		for name, read := range readers() {
			for _, s := range hostile() {
				got, e := read(s)
				answer, key := got+e.Error(), name+" "+s
				if old, asked := first[key]; asked && old != answer {
					t.Fatalf("%s(%.40q) answers otherwise the second time", name, s)
				}
				first[key] = answer
			}
		}
	}
}

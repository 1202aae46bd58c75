package utf_test

import (
	"math"
	"slices"
	"testing"

	"weir/api"
	"weir/utf"
)

// P1.1

func TestNextExamples(t *testing.T) {
	for _, c := range []struct {
		s     string
		at    int
		r     rune
		width int
	}{
		{"a\xc3\xa9z", 0, 'a', 1},
		{"a\xc3\xa9z", 1, 233, 2},
		{"a\xc3\xa9z", 2, -1, 0},
		{"a\xc3\xa9z", 3, 'z', 1},
		{"a", 1, -1, 0},
		{"a", -1, -1, 0},
		{"", 0, -1, 0},
		{"a", math.MaxInt, -1, 0},
		{"a", math.MinInt, -1, 0},
		{"\xef\xbf\xbd", 0, 0xFFFD, 3},
		{"\xff\xef\xbf\xbd", 0, -1, 0},
		{"\xc3", 0, -1, 0},
		{"\x00", 0, 0, 1},
	} {
		if r, w := utf.Next(c.s, c.at); r != c.r || w != c.width {
			t.Errorf("Next(%q, %d) = %d, %d, not %d, %d", c.s, c.at, r, w, c.r, c.width)
		}
	}
}

func TestValidExamples(t *testing.T) {
	for s, want := range map[string]bool{
		"":                     true,
		"abc\x00":              true,
		"a\u00e9\u20ac":        true,
		"\ufffd":               true,
		"\xf4\x8f\xbf\xbf":     true,
		"\xed\xa0\x80":         false,
		"\xed\xbf\xbf":         false,
		"\xc1\x81":             false,
		"\xc0\x80":             false,
		"\xe0\x9f\xbf":         false,
		"\xf0\x8f\xbf\xbf":     false,
		"\xf4\x90\x80\x80":     false,
		"\xf8\x88\x80\x80\x80": false,
		"\x80":                 false,
		"ab\xc3":               false,
		"\ufffd\xff":           false,
		"\xef\xbf":             false,
	} {
		if utf.Valid(s) != want {
			t.Errorf("Valid(%q) = %v", s, !want)
		}
	}
}

func TestEachNumbersForm(t *testing.T) {
	for r := rune(0); r <= 0x1FFFFF; r++ {
		s, wantR, wantW := form(r), r, len(form(r))
		if !isRune(r) {
			wantR, wantW = -1, 0
		}
		if got, w := utf.Next(s, 0); got != wantR || w != wantW || utf.Valid(s) != isRune(r) {
			t.Fatalf("the form %q of %#x: Next = %d, %d; Valid = %v", s, r, got, w, utf.Valid(s))
		}
	}
}

func checkRunesOf(t *testing.T, s string) {
	t.Helper()
	for at := -1; at <= len(s)+1; at++ {
		r, w := utf.Next(s, at)
		if wantR, wantW := next(s, at); r != wantR || w != wantW {
			t.Fatalf("Next(%q, %d) = %d, %d, not %d, %d", s, at, r, w, wantR, wantW)
		}
	}
	if _, _, want := runes(s); utf.Valid(s) != want {
		t.Fatalf("Valid(%q) = %v", s, !want)
	}
}

func TestEachShortText(t *testing.T) {
	for s := range texts(2, eachByte()...) {
		checkRunesOf(t, s)
	}
	for s := range texts(4, edgeBytes()...) {
		checkRunesOf(t, s)
	}
	for s := range someTexts() {
		checkRunesOf(t, s)
	}
}

// P1.2

func TestRunesExamples(t *testing.T) {
	for _, c := range []struct {
		s    string
		want []rune
		e    api.Errno
	}{
		{"", nil, api.OK},
		{"\xf0\x9f\x98\x80", []rune{128512}, api.OK},
		{"a\u00e9\x00\ufffd", []rune{97, 233, 0, 0xFFFD}, api.OK},
		{"a\xff", nil, api.ErrUTF},
		{"\xed\xa0\x80", nil, api.ErrUTF},
	} {
		if got, e := utf.Runes(c.s); !slices.Equal(got, c.want) || e != c.e {
			t.Errorf("Runes(%q) = %v, %d", c.s, got, e)
		}
	}
}

func TestTextExamples(t *testing.T) {
	for _, c := range []struct {
		rs   []rune
		want string
		e    api.Errno
	}{
		{nil, "", api.OK},
		{[]rune{}, "", api.OK},
		{[]rune{97, 233, 0x20AC, 128512}, "a\xc3\xa9\xe2\x82\xac\xf0\x9f\x98\x80", api.OK},
		{[]rune{0, 0x7F, 0x80, 0x7FF, 0x800}, "\x00\x7f\xc2\x80\xdf\xbf\xe0\xa0\x80", api.OK},
		{[]rune{0xFFFF, 0x10000, lastRune}, "\xef\xbf\xbf\xf0\x90\x80\x80\xf4\x8f\xbf\xbf", api.OK},
		{[]rune{0xD7FF, 0xE000, 0xFFFD}, "\xed\x9f\xbf\xee\x80\x80\xef\xbf\xbd", api.OK},
		{[]rune{97, 0xDFFF}, "", api.ErrRune},
		{[]rune{0xD800, 97}, "", api.ErrRune},
		{[]rune{97, -1, 98}, "", api.ErrRune},
		{[]rune{0x110000}, "", api.ErrRune},
		{[]rune{math.MinInt32}, "", api.ErrRune},
		{[]rune{math.MaxInt32}, "", api.ErrRune},
	} {
		if got, e := utf.Text(c.rs); got != c.want || e != c.e {
			t.Errorf("Text(%v) = %q, %d", c.rs, got, e)
		}
	}
}

func TestTextOfEachNumber(t *testing.T) {
	for r := rune(-0x200); r <= 0x110200; r++ {
		got, e := utf.Text([]rune{'x', r})
		if isRune(r) && (got != "x"+form(r) || e != api.OK) || !isRune(r) && (got != "" || e != api.ErrRune) {
			t.Fatalf("Text of x and %#x = %q, %d", r, got, e)
		}
	}
}

func TestThereAndBack(t *testing.T) {
	for s := range someTexts() {
		want, _, fine := runes(s)
		rs, e := utf.Runes(s)
		if !fine {
			if len(rs) != 0 || e != api.ErrUTF {
				t.Fatalf("Runes(%q) = %v, %d", s, rs, e)
			}
			continue
		}
		if !slices.Equal(rs, want) || e != api.OK {
			t.Fatalf("Runes(%q) = %v, %d", s, rs, e)
		}
		if back, e := utf.Text(rs); back != s || e != api.OK {
			t.Fatalf("Text of Runes(%q) = %q, %d", s, back, e)
		}
	}
}

// P1.3

func checkAll(t *testing.T, s string) {
	t.Helper()
	var rs []rune
	var places []int
	for at, r := range utf.All(s) {
		rs, places = append(rs, r), append(places, at)
	}
	if wantRs, wantPlaces, _ := runes(s); !slices.Equal(rs, wantRs) || !slices.Equal(places, wantPlaces) {
		t.Fatalf("All(%q) gives %v at %v, not %v at %v", s, rs, places, wantRs, wantPlaces)
	}
}

func TestAll(t *testing.T) {
	for s := range someTexts() {
		checkAll(t, s)
	}
	for s := range texts(3, edgeBytes()...) {
		checkAll(t, s)
	}
}

func TestAllAgainAndAgain(t *testing.T) {
	seq := utf.All("a\u00e9b")
	for stop := range 4 {
		n := 0
		for at := range seq {
			if n == 0 && at != 0 {
				t.Errorf("the iterator begins at %d", at)
			}
			n++
			if n == stop {
				break
			}
		}
		if want := []int{3, 1, 2, 3}[stop]; n != want {
			t.Errorf("left at %d, the iterator gave %d", stop, n)
		}
	}
}

func TestAllWithinItself(t *testing.T) {
	seq, pairs := utf.All("a\u00e9b"), 0
	for range seq {
		for range seq {
			pairs++
		}
	}
	if pairs != 9 {
		t.Errorf("an iterator gone over within itself gave %d pairs", pairs)
	}
}

// P1.4

func TestPlaceExamples(t *testing.T) {
	for _, c := range []struct {
		s             string
		at, line, col int
	}{
		{"ab\n\xc3\xa9x", 5, 2, 2},
		{"ab\n\xc3\xa9x", 4, 2, 1},
		{"ab\n\xc3\xa9x", 3, 2, 1},
		{"ab\n\xc3\xa9x", 2, 1, 3},
		{"ab\n\xc3\xa9x", 6, 2, 3},
		{"ab\n\xc3\xa9x", 7, 2, 3},
		{"ab\n\xc3\xa9x", math.MaxInt, 2, 3},
		{"ab\n\xc3\xa9x", -1, 1, 1},
		{"ab\n\xc3\xa9x", math.MinInt, 1, 1},
		{"", 0, 1, 1},
		{"", 9, 1, 1},
		{"\n", 1, 2, 1},
		{"\n\n", 1, 2, 1},
		{"\r\na", 2, 2, 1},
		{"\r\na", 1, 1, 2},
		{"\xff\xfe\xfd", 2, 1, 3},
		{"\xf0\x9f\x98\x80z", 3, 1, 1},
		{"\xf0\x9f\x98\x80z", 4, 1, 2},
		{"\xf0\x9f\x98", 3, 1, 4},
		{"\xed\xa0\x80", 2, 1, 3},
	} {
		if line, col := utf.Place(c.s, c.at); line != c.line || col != c.col {
			t.Errorf("Place(%q, %d) = %d, %d, not %d, %d", c.s, c.at, line, col, c.line, c.col)
		}
	}
}

func TestPlace(t *testing.T) {
	for s := range someTexts() {
		for at := -1; at <= len(s)+1; at++ {
			line, col := utf.Place(s, at)
			if wantLine, wantCol := place(s, at); line != wantLine || col != wantCol {
				t.Fatalf("Place(%q, %d) = %d, %d, not %d, %d", s, at, line, col, wantLine, wantCol)
			}
		}
	}
}

package seal_test

import (
	"encoding/base64"
	"strings"
	"testing"

	"weir/api"
	"weir/seal"
)

// checkEncode: Encode of b is s, and Decode of s is b.
func checkEncode(t *testing.T, b, s string) {
	t.Helper()
	if got := seal.Encode([]byte(b)); got != s {
		t.Errorf("Encode(%.40q) = %.60q, want %.60q", b, got, s)
	}
	checkDecode(t, s, b, api.OK)
}

func checkDecode(t *testing.T, s, want string, wantE api.Errno) {
	t.Helper()
	got, e := seal.Decode(s)
	if string(got) != want || e != wantE {
		t.Errorf("Decode(%.60q) = %.40q, %d, want %.40q, %d", s, got, e, want, wantE)
	}
}

func refused(t *testing.T, s string) {
	t.Helper()
	checkDecode(t, s, "", api.ErrBase64)
}

// P5.1: the chapter's examples, and other known texts.
func TestBase64Examples(t *testing.T) {
	rows := []struct{ b, s string }{
		{"", ""},
		{"\x00", "AA"}, {"\xff\xff\xff", "____"}, {"\xfb", "-w"},
		{"foobar", "Zm9vYmFy"}, {"fooba", "Zm9vYmE"}, {"foob", "Zm9vYg"}, {"foo", "Zm9v"}, {"fo", "Zm8"}, {"f", "Zg"},
		{"\x00\x00", "AAA"}, {"\x00\x00\x00", "AAAA"}, {"\x00\x00\x00\x00", "AAAAAA"},
		{"\xff", "_w"}, {"\xff\xff", "__8"}, {"\xff\xff\xff\xff", "_____w"},
		{"\x80", "gA"}, {"\x01", "AQ"}, {"\x00\x01", "AAE"}, {"\x00\x00\x01", "AAAB"}, {"\x00\x00\x3e", "AAA-"}, {"\x00\x00\x3f", "AAA_"},
		{"\x00\x10\x83\x10\x51\x87\x20\x92\x8b", "ABCDEFGHIJKL"},
		{"\x14\xfb\x9c\x03\xd9\x7e", "FPucA9l-"},
	}
	for _, row := range rows {
		checkEncode(t, row.b, row.s)
	}
	if got := seal.Encode(nil); got != "" {
		t.Errorf("Encode(nil) = %q", got)
	}
	if got := seal.Encode([]byte{}); got != "" {
		t.Errorf("Encode of no bytes = %q", got)
	}
}

// P5.1: the examples that are refused, and their like.
func TestBase64Refused(t *testing.T) {
	for _, s := range []string{
		"A", "AAAAA", "AAAAAAAAA", "Zm9vY", "_",
		"AB", "Zh", "_x", "__9", "AAB", "AAAAAB", "AAAAAAB", "Zm9vYh", "Zm9vYmF",
		"AA==", "AAA=", "=", "==", "AA=", "A===", "=AAA", "Zm9v====", "Zg==", "Zm8=",
		"+w", "/w", "AA+A", "AA/A", "++++", "////",
		" ", "AA ", " AA", "A A", "AA A", "AAAA ", "\tAA", "AA\t",
		"AA\n", "\nAA", "A\nA", "AA\r\n", "AAAA\n", "\n", "\r", "AA\nAA",
		".", "AA.AA", "AA,A", "AA\x00", "\x00", "A\x00AA", "\x7fA", "A\x80", "\xff\xff", "é", "AAé", "A\xc3\xa9A",
	} {
		refused(t, s)
	}
}

// P5.1: every byte by itself and in every place of three; by the chapter's words and by the library.
func TestEncodeEveryByte(t *testing.T) {
	for v := range 256 {
		c := string([]byte{byte(v)})
		for _, b := range []string{c, "\x00" + c, c + "\x00", "\xff" + c, c + "\xff", c + "ab", "a" + c + "b", "ab" + c, "abc" + c, "\xff\xff\xff" + c + c} {
			checkEncode(t, b, wordsEncode(b))
			if want := base64.RawURLEncoding.EncodeToString([]byte(b)); seal.Encode([]byte(b)) != want {
				t.Errorf("Encode(%q) isn't the library's %q", b, want)
			}
		}
	}
}

// P5.1: all pairs of bytes.
func TestEncodeEveryPair(t *testing.T) {
	for v := range 1 << 16 {
		b := []byte{byte(v >> 8), byte(v)}
		s := seal.Encode(b)
		if want := base64.RawURLEncoding.EncodeToString(b); s != want {
			t.Fatalf("Encode(%q) = %q, want %q", b, s, want)
		}
		if back, e := seal.Decode(s); e != api.OK || string(back) != string(b) {
			t.Fatalf("Decode(%q) = %q, %d", s, back, e)
		}
	}
}

// P5.1: every byte as a letter in every place of a text, and all texts of two bytes.
func TestDecodeEveryLetter(t *testing.T) {
	for v := range 256 {
		c := string([]byte{byte(v)})
		for _, s := range []string{c, c + "A", "A" + c, c + "AA", "A" + c + "A", "AA" + c, c + "AAA", "A" + c + "AA", "AA" + c + "A", "AAA" + c, "____" + c + "A", "____A" + c} {
			want, e := wordsDecode(s)
			checkDecode(t, s, want, e)
		}
	}
	for v := range 1 << 16 {
		s := string([]byte{byte(v >> 8), byte(v)})
		want, e := wordsDecode(s)
		checkDecode(t, s, want, e)
	}
}

// P5.1: the last letter, in texts that leave 2 and 3 behind whole fours: just those are taken that hold bits 0 beyond the last whole byte.
func TestLastLetter(t *testing.T) {
	for _, front := range []string{"", "Zm9v", "________"} {
		for i, c := range letters() {
			two, three := front+"x"+string(c), front+"xy"+string(c)
			_, e := seal.Decode(two)
			if taken := e == api.OK; taken != (i%16 == 0) {
				t.Errorf("Decode(%q): %d", two, e)
			}
			_, e = seal.Decode(three)
			if taken := e == api.OK; taken != (i%4 == 0) {
				t.Errorf("Decode(%q): %d", three, e)
			}
			if _, e = seal.Decode(front + "xyz" + string(c)); e != api.OK {
				t.Errorf("whole fours that end in %q: %d", c, e)
			}
		}
	}
}

// P5.1: there and back, for every length up to some, and for long lists.
func TestBase64ThereAndBack(t *testing.T) {
	r := someRand()
	for n := range 300 {
		for range 3 {
			b := someText(r, n)
			checkEncode(t, b, wordsEncode(b))
		}
	}
	for _, n := range []int{1000, 4095, 4096, 4097, 100000, 100001, 100002, 1000000} {
		b := someText(r, n)
		checkEncode(t, b, base64.RawURLEncoding.EncodeToString([]byte(b)))
	}
}

// P5.1: letters without a rule: what is taken is written again as it was; and one foreign byte anywhere is refused.
func TestDecodeLetters(t *testing.T) {
	const foreign = "=+/ \n\r\t.\x00\x7f\x80\xff@[`{:,"
	r := someRand()
	for range 20000 {
		s := someLetters(r, r.IntN(40))
		want, wantE := wordsDecode(s)
		checkDecode(t, s, want, wantE)
		if b, e := seal.Decode(s); e == api.OK && seal.Encode(b) != s {
			t.Errorf("Decode(%q) = %q, whose Encode is %q", s, b, seal.Encode(b))
		}
		if s == "" {
			continue
		}
		at, f := r.IntN(len(s)), r.IntN(len(foreign))
		refused(t, s[:at]+foreign[f:f+1]+s[at+1:])
	}
}

// P5.1: a text is taken by just those letters that the library takes, too (it passes over line ends, which are left out here).
func TestDecodeByTheLibrary(t *testing.T) {
	r := someRand()
	for range 20000 {
		s := someLetters(r, r.IntN(12))
		if r.IntN(3) == 0 {
			s += string("=+/ AQgw"[r.IntN(8)])
		}
		want, err := base64.RawURLEncoding.Strict().DecodeString(s)
		if err != nil {
			refused(t, s)
		} else {
			checkDecode(t, s, string(want), api.OK)
		}
	}
}

// P5.1: so many letters a number of bytes.
func TestLettersOfBytes(t *testing.T) {
	for n := range 100 {
		s := seal.Encode(make([]byte, n))
		if want := n/3*4 + []int{0, 2, 3}[n%3]; len(s) != want {
			t.Errorf("%d bytes have %d letters, want %d", n, len(s), want)
		}
		if s != strings.Repeat("A", len(s)) {
			t.Errorf("%d noughts: %q", n, s)
		}
	}
}

package lex_test

import (
	"iter"
	"regexp"
	"testing"

	"weir/api"
	"weir/lex"
	"weir/num"
	"weir/span"
	"weir/utf"
)

var (
	between = regexp.MustCompile(`\A(?:[\t\n\r ]|#[^\n]*\n)*\z`)
	atLast  = regexp.MustCompile(`\A(?:[\t\n\r ]|#[^\n]*\n)*(?:#[^\n]*)?\z`)
)

// manyTexts: those over which P11.2 and P11.3 are asked.
func manyTexts() iter.Seq[string] {
	return func(yield func(string) bool) {
		for _, list := range []iter.Seq[string]{texts(2, pieces()...), texts(4, "a", "{", "}", "[", ":", "1", "m", "'", "#", "\n", "=", "."), random(60000)} {
			for text := range list {
				if !yield(text) {
					return
				}
			}
		}
	}
}

// readable: can the layer whose thing it is read the token?
func readable(k api.Token) bool {
	var e api.Errno
	switch k.Kind {
	case api.TokName:
		return lex.IsLabel(k.Text)
	case api.TokMetric:
		return lex.IsMetric(k.Text) && !lex.IsLabel(k.Text)
	case api.TokNumber:
		_, e = num.Read(k.Text)
	case api.TokSpan:
		_, e = span.Parse(k.Text)
	case api.TokString:
		_, e = utf.Unquote(k.Text)
	case api.TokOp:
		return operators.FindString(k.Text) == k.Text
	default:
		return false
	}
	return k.Text != "" && e == api.OK
}

// P11.2: the tokens stand where they say, in order, with nothing but gaps around them, and each of them can be read.
func TestScanPlaces(t *testing.T) {
	asked := 0
	for text := range manyTexts() {
		toks, at, e := lex.Scan(text)
		if e != api.OK {
			continue
		}
		if at != 0 {
			t.Fatalf("Scan(%q) tells the place %d beside OK", text, at)
		}
		end := 0
		for _, k := range toks {
			asked++
			if k.At < end || k.At+len(k.Text) > len(text) || text[k.At:k.At+len(k.Text)] != k.Text {
				t.Fatalf("Scan(%q): %v doesn't stand there", text, k)
			}
			if !between.MatchString(text[end:k.At]) {
				t.Fatalf("Scan(%q): %q is passed over", text, text[end:k.At])
			}
			if !readable(k) {
				t.Fatalf("Scan(%q): %v can't be read", text, k)
			}
			end = k.At + len(k.Text)
		}
		if !atLast.MatchString(text[end:]) {
			t.Fatalf("Scan(%q): %q is passed over", text, text[end:])
		}
	}
	if asked < 100000 {
		t.Errorf("%d tokens were asked", asked)
	}
}

// P11.3: there and back.
func TestScanJoin(t *testing.T) {
	asked := 0
	for text := range manyTexts() {
		toks, _, e := lex.Scan(text)
		if e != api.OK {
			continue
		}
		asked++
		line := lex.Join(toks)
		again, at, e := lex.Scan(line)
		if told(again) != told(toks) || at != 0 || e != api.OK {
			t.Fatalf("Scan(%q) = %v; joined, %q: %v, %d, %d", text, toks, line, again, at, e)
		}
		if lex.Join(again) != line {
			t.Fatalf("Join(Scan(%q)) = %q", line, lex.Join(again))
		}
	}
	if asked < 20000 {
		t.Errorf("%d texts were asked", asked)
	}
}

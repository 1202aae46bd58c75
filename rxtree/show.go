package rxtree

import (
	"strconv"
	"strings"

	"weir/api"
)

// A writer holds the text so far.
type writer struct {
	text []byte
}

// shown: the canonical text of a valid tree in which that was found; given up with ErrLong where it is too long.
func shown(x api.Rx, found survey) string {
	var w writer
	if found.lines {
		w.put("(?m)")
	}
	w.node(x)
	return string(w.text)
}

// put gives up ahead of the first byte too many: a short list of nodes can have a text without measure.
func (w *writer) put(s string) {
	if len(s) > api.MaxPattern-len(w.text) {
		panic(api.ErrLong)
	}
	w.text = append(w.text, s...)
}

func (w *writer) node(x api.Rx) {
	switch x.Kind {
	case api.RxLit:
		w.put(litText(x.R))
	case api.RxClass:
		w.class(x.Ranges)
	case api.RxAlt:
		w.kids(x, "|")
	case api.RxCat:
		w.kids(x, "")
	case api.RxRepeat:
		w.kids(x, "")
		w.put(timesText(x.Min, x.Max))
		if x.Lazy {
			w.put("?")
		}
	case api.RxGroup:
		w.put("(")
		if x.Name != "" {
			w.put("?P<")
			w.put(x.Name)
			w.put(">")
		}
		w.kids(x, "")
		w.put(")")
	default:
		w.put(markText(x.Kind))
	}
}

// kids: a node's kids, each in brackets where it needs them, with that between.
func (w *writer) kids(x api.Rx, between string) {
	for i, kid := range x.Kids {
		if i > 0 {
			w.put(between)
		}
		if isBracketed(x.Kind, kid.Kind) {
			w.put("(?:")
			w.node(kid)
			w.put(")")
		} else {
			w.node(kid)
		}
	}
}

// isBracketed: whether a kid of that kind stands in brackets in a node of that kind, since without them its text would be read as another tree.
func isBracketed(kind, kid int) bool {
	switch kid {
	case api.RxAlt:
		return kind == api.RxAlt || kind == api.RxCat || kind == api.RxRepeat
	case api.RxCat, api.RxEmpty:
		return kind == api.RxCat || kind == api.RxRepeat
	case api.RxRepeat:
		return kind == api.RxRepeat
	}
	return false
}

// class: a list of ranges; a class needs an item, so the one without runes is what no rune is outside of.
func (w *writer) class(set []api.RuneRange) {
	if len(set) == 0 {
		w.put(`[^\x{0}-\x{10ffff}]`)
		return
	}
	w.put("[")
	for _, r := range set {
		w.put(memberText(r.Lo))
		if r.Lo != r.Hi {
			w.put("-")
			w.put(memberText(r.Hi))
		}
	}
	w.put("]")
}

// memberText: a rune as a class tells it.
func memberText(r rune) string {
	if isLetter(r) || isDigit(r) {
		return string(r)
	}
	return hexText(r)
}

// litText: a rune as it stands for itself outside of a class.
func litText(r rune) string {
	switch {
	case strings.ContainsRune(special, r):
		return `\` + string(r)
	case r < ' ' || r == 0x7F || 0xD800 <= r && r <= 0xDFFF:
		return hexText(r)
	}
	return string(r)
}

func hexText(r rune) string { return `\x{` + strconv.FormatInt(int64(r), 16) + "}" }

// timesText: a repeat's sign, the shortest there is.
func timesText(least, most int) string {
	switch {
	case least == 0 && most == -1:
		return "*"
	case least == 1 && most == -1:
		return "+"
	case least == 0 && most == 1:
		return "?"
	case most == least:
		return "{" + strconv.Itoa(least) + "}"
	case most == -1:
		return "{" + strconv.Itoa(least) + ",}"
	}
	return "{" + strconv.Itoa(least) + "," + strconv.Itoa(most) + "}"
}

// markText: the text of a kind without fields.
func markText(kind int) string {
	switch kind {
	case api.RxBegin:
		return `\A`
	case api.RxEnd:
		return `\z`
	case api.RxLineBegin:
		return "^"
	case api.RxLineEnd:
		return "$"
	case api.RxWord:
		return `\b`
	case api.RxNotWord:
		return `\B`
	}
	return "" // RxEmpty
}

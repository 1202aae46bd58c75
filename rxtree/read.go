package rxtree

import (
	"weir/api"
	"weir/utf"
)

// none stands for the rune behind a pattern's end.
const none = -1

// A reader goes through a pattern from the left.
type reader struct {
	runes []rune
	at    int      // the place of the next rune
	flags flags    // those that hold there
	open  int      // how many brackets are open there
	names []string // of the groups so far; "" of one without a name
}

// parsed: the tree of a pattern.
func parsed(pattern string) api.Rx {
	if len(pattern) > api.MaxPattern {
		panic(api.ErrLong)
	}
	runes, e := utf.Runes(pattern)
	if e != api.OK {
		panic(e)
	}
	p := reader{runes: runes}
	x := p.expression()
	if p.ahead(0) != none { // an expression ends at a bracket that closes, too
		panic(api.ErrRxBrackets)
	}
	return x
}

// ahead: the rune that stands n runes behind the place.
func (p *reader) ahead(n int) rune {
	if p.at+n < len(p.runes) {
		return p.runes[p.at+n]
	}
	return none
}

// take: the next rune, passed over; at the pattern's end the place stays.
func (p *reader) take() rune {
	r := p.ahead(0)
	if r != none {
		p.at++
	}
	return r
}

// sees: whether this text, of ASCII alone, stands at the place.
func (p *reader) sees(ascii string) bool {
	for i := range len(ascii) {
		if p.ahead(i) != rune(ascii[i]) {
			return false
		}
	}
	return true
}

// takes: whether this text stands at the place; if so it is passed over.
func (p *reader) takes(ascii string) bool {
	if !p.sees(ascii) {
		return false
	}
	p.at += len(ascii)
	return true
}

// expression: one alternative or several, up to a bracket that closes or the pattern's end.
func (p *reader) expression() api.Rx {
	kids := []api.Rx{p.alternative()}
	for p.takes("|") {
		kids = append(kids, p.alternative())
	}
	return joined(api.RxAlt, kids)
}

// alternative: a row of pieces.
func (p *reader) alternative() api.Rx {
	var row []api.Rx
	for p.ahead(0) != none && !p.sees("|") && !p.sees(")") {
		pieces := p.pieces()
		if last := len(pieces) - 1; last >= 0 {
			pieces[last] = p.repeated(pieces[last])
		}
		row = append(row, pieces...)
	}
	return joined(api.RxCat, row)
}

// joined: a node of that kind about these; none and one stand without it.
func joined(kind int, kids []api.Rx) api.Rx {
	switch len(kids) {
	case 0:
		return api.Rx{Kind: api.RxEmpty}
	case 1:
		return kids[0]
	}
	return api.Rx{Kind: kind, Kids: kids}
}

// pieces: what stands at the place, repeats that follow left out; a setting of flags is no piece, and a quotation may be many.
func (p *reader) pieces() []api.Rx {
	if _, ok := p.repeat(); ok { // each piece has taken the repeat right behind it
		panic(api.ErrRxRepeat)
	}
	if p.turns(")") {
		return nil
	}
	if p.sees("(") {
		return []api.Rx{p.bracket()}
	}
	if p.takes(`\Q`) {
		return p.quotation()
	}
	return []api.Rx{p.single()}
}

// quotation: the pieces up to the `\E`, or up to the pattern's end.
func (p *reader) quotation() []api.Rx {
	var row []api.Rx
	for p.ahead(0) != none && !p.takes(`\E`) {
		row = append(row, p.literal(p.take()))
	}
	return row
}

// single: the piece that begins with a rune that opens no bracket.
func (p *reader) single() api.Rx {
	switch r := p.take(); r {
	case '.':
		return p.dot()
	case '^':
		return p.mark(api.RxBegin, api.RxLineBegin)
	case '$':
		return p.mark(api.RxEnd, api.RxLineEnd)
	case '[':
		return p.class()
	case '\\':
		return p.escape()
	default:
		return p.literal(r)
	}
}

// dot: any rune, but the line's end where the flag s isn't set.
func (p *reader) dot() api.Rx {
	if p.flags&dotAll != 0 {
		return oneOf(others(nil))
	}
	return oneOf(others(pairs("\n\n")))
}

// mark: the node of that kind, or of the other one where the flag m is set.
func (p *reader) mark(ofText, ofLine int) api.Rx {
	if p.flags&manyLines != 0 {
		return api.Rx{Kind: ofLine}
	}
	return api.Rx{Kind: ofText}
}

// literal: the node of a single rune.
func (p *reader) literal(r rune) api.Rx {
	set := []api.RuneRange{{Lo: r, Hi: r}}
	if p.flags&foldCase != 0 {
		set = withCases(set)
	}
	return oneOf(set)
}

// repeated: the piece with the repeat about it that stands at the place, or the piece alone.
func (p *reader) repeated(piece api.Rx) api.Rx {
	x, ok := p.repeat()
	if !ok {
		return piece
	}
	x.Kids = []api.Rx{piece}
	return x
}

// repeat: the node, still without its kid, of the repeat that stands at the place.
func (p *reader) repeat() (api.Rx, bool) {
	least, most, ok := p.times()
	if !ok {
		return api.Rx{}, false
	}
	lazy := p.takes("?") != (p.flags&lazyFirst != 0)
	return api.Rx{Kind: api.RxRepeat, Min: least, Max: most, Lazy: lazy}, true
}

// times: how often at least and at most, -1 for no end, the repeat at the place says.
func (p *reader) times() (least, most int, ok bool) {
	switch {
	case p.takes("*"):
		return 0, -1, true
	case p.takes("+"):
		return 1, -1, true
	case p.takes("?"):
		return 0, 1, true
	}
	return p.braces()
}

// braces: the numbers of `{n}`, `{n,}` or `{n,m}`; where none of them stands, the place stays as it is.
func (p *reader) braces() (least, most int, ok bool) {
	from := p.at
	least, most, ok = p.bounds()
	if !ok {
		p.at = from
		return 0, 0, false
	}
	if max(least, most) > api.MaxRepeat || most != -1 && most < least {
		panic(api.ErrRxRepeat)
	}
	return least, most, true
}

// bounds: the numbers of braces as far as they are braces of a repeat.
func (p *reader) bounds() (least, most int, ok bool) {
	if !p.takes("{") {
		return 0, 0, false
	}
	if least, ok = p.number(); !ok {
		return 0, 0, false
	}
	most = least
	if p.takes(",") {
		if most, ok = p.number(); !ok {
			most = -1
		}
	}
	return least, most, p.takes("}")
}

// number: the decimal digits at the place as a number, which is told no further than to one past the limit.
func (p *reader) number() (n int, ok bool) {
	for isDigit(p.ahead(0)) {
		n, ok = min(10*n+int(p.take()-'0'), api.MaxRepeat+1), true
	}
	return n, ok
}

package rxtree

import "weir/api"

// escape: the piece of an escape whose backslash has been passed over.
func (p *reader) escape() api.Rx {
	if kind := markOf(p.ahead(0)); kind != 0 {
		p.at++
		return api.Rx{Kind: kind}
	}
	if set, ok := setOf(p.ahead(0)); ok {
		p.at++
		return oneOf(set)
	}
	return p.literal(p.escaped())
}

// markOf: the kind of node that a letter behind a backslash stands for where it takes no rune of a text; 0 if it is none of these.
func markOf(letter rune) int {
	switch letter {
	case 'A':
		return api.RxBegin
	case 'z':
		return api.RxEnd
	case 'b':
		return api.RxWord
	case 'B':
		return api.RxNotWord
	}
	return 0
}

// setOf: the runes that a letter behind a backslash stands for where it stands for a set of them.
func setOf(letter rune) ([]api.RuneRange, bool) {
	switch letter {
	case 'd':
		return pairs(digits), true
	case 's':
		return pairs("\t\n\f\r  "), true
	case 'w':
		return pairs(wordRunes), true
	case 'D':
		return others(pairs(digits)), true
	case 'S':
		return others(pairs("\t\n\f\r  ")), true
	case 'W':
		return others(pairs(wordRunes)), true
	}
	return nil, false
}

// escaped: the one rune that an escape stands for whose backslash has been passed over.
func (p *reader) escaped() rune {
	r := p.take()
	switch r {
	case 'a':
		return '\a'
	case 'f':
		return '\f'
	case 't':
		return '\t'
	case 'n':
		return '\n'
	case 'r':
		return '\r'
	case 'v':
		return '\v'
	case 'x':
		return p.hexadecimal()
	}
	if r == none || r > maxASCII || isLetter(r) || isDigit(r) {
		panic(api.ErrRxEscape)
	}
	return r
}

// hexadecimal: the rune of the digits behind `\x`: just two, or as many as one likes in braces.
func (p *reader) hexadecimal() rune {
	if !p.takes("{") {
		n, digits := p.hexNumber(2)
		if digits < 2 {
			panic(api.ErrRxEscape)
		}
		return n
	}
	n, digits := p.hexNumber(api.MaxPattern)
	if digits == 0 || n > maxRune || !p.takes("}") {
		panic(api.ErrRxEscape)
	}
	return n
}

// hexNumber: the number of the hexadecimal digits at the place, at most most of them, told no further than to one past the greatest rune; and how many they are.
func (p *reader) hexNumber(most int) (n rune, digits int) {
	for digits < most {
		d := hexDigit(p.ahead(0))
		if d < 0 {
			break
		}
		n = min(16*n+d, maxRune+1)
		digits++
		p.at++
	}
	return n, digits
}

// hexDigit: what a hexadecimal digit counts; -1 if the rune is none.
func hexDigit(r rune) rune {
	switch {
	case isDigit(r):
		return r - '0'
	case 'a' <= r && r <= 'f':
		return r - 'a' + 10
	case 'A' <= r && r <= 'F':
		return r - 'A' + 10
	}
	return -1
}

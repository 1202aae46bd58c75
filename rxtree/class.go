package rxtree

import (
	"cmp"
	"slices"

	"weir/api"
)

// Sets of ASCII, each two bytes the ends of a range.
const (
	digits    = "09"
	wordRunes = "09AZ__az"
)

const maxASCII = 127

// class: the piece of a class whose `[` has been passed over.
func (p *reader) class() api.Rx {
	negated := p.takes("^")
	set := p.item() // even a `]`: it closes nothing as long as there is no item
	for !p.takes("]") {
		set = append(set, p.item()...)
	}
	if p.flags&foldCase != 0 {
		set = withCases(set)
	}
	if negated {
		set = others(set)
	}
	return oneOf(set)
}

// item: the runes of one item of a class.
func (p *reader) item() []api.RuneRange {
	if set, ok := p.namedSet(); ok {
		return set
	}
	if p.sees(`\`) {
		if set, ok := setOf(p.ahead(1)); ok {
			p.at += 2
			return set
		}
	}
	lo := p.member()
	hi := lo
	if p.sees("-") && p.ahead(1) != ']' {
		p.at++
		hi = p.member()
	}
	if hi < lo {
		panic(api.ErrRxClass)
	}
	return []api.RuneRange{{Lo: lo, Hi: hi}}
}

// member: a single rune of a class, plain or escaped.
func (p *reader) member() rune {
	switch r := p.take(); r {
	case none:
		panic(api.ErrRxClass)
	case '\\':
		return p.escaped()
	default:
		return r
	}
}

// namedSet: the runes of the `[:name:]` at the place; a `[:` that nothing closes isn't one.
func (p *reader) namedSet() ([]api.RuneRange, bool) {
	if !p.sees("[:") {
		return nil, false
	}
	from := p.at + len("[:")
	end := from
	for end+1 < len(p.runes) && (p.runes[end] != ':' || p.runes[end+1] != ']') {
		end++
	}
	if end+1 >= len(p.runes) {
		return nil, false
	}
	p.at = from
	negated := p.takes("^")
	set := pairs(namedPairs(string(p.runes[p.at:end])))
	p.at = end + len(":]")
	if negated {
		return others(set), true
	}
	return set, true
}

// namedPairs: the set of that name.
func namedPairs(name string) string {
	switch name {
	case "alnum":
		return "09AZaz"
	case "alpha":
		return "AZaz"
	case "ascii":
		return "\x00\x7f"
	case "blank":
		return "\t\t  "
	case "cntrl":
		return "\x00\x1f\x7f\x7f"
	case "digit":
		return digits
	case "graph":
		return "!~"
	case "lower":
		return "az"
	case "print":
		return " ~"
	case "punct":
		return "!/:@[`{~"
	case "space":
		return "\t\r  "
	case "upper":
		return "AZ"
	case "word":
		return wordRunes
	case "xdigit":
		return digits + "AFaf"
	}
	panic(api.ErrRxClass)
}

// pairs: the ranges whose ends the bytes are, two by two.
func pairs(ends string) []api.RuneRange {
	var set []api.RuneRange
	for i := 0; i < len(ends); i += 2 {
		set = append(set, api.RuneRange{Lo: rune(ends[i]), Hi: rune(ends[i+1])})
	}
	return set
}

// withCases: these ranges, and beside them the other case of each letter in them.
func withCases(set []api.RuneRange) []api.RuneRange {
	const up = 'a' - 'A'
	out := slices.Clone(set)
	for _, r := range set {
		if lo, hi := max(r.Lo, 'a'), min(r.Hi, 'z'); lo <= hi {
			out = append(out, api.RuneRange{Lo: lo - up, Hi: hi - up})
		}
		if lo, hi := max(r.Lo, 'A'), min(r.Hi, 'Z'); lo <= hi {
			out = append(out, api.RuneRange{Lo: lo + up, Hi: hi + up})
		}
	}
	return out
}

// merged: the same runes, in as few ranges as can be, rising.
func merged(set []api.RuneRange) []api.RuneRange {
	rising := slices.SortedFunc(slices.Values(set), func(a, b api.RuneRange) int { return cmp.Compare(a.Lo, b.Lo) })
	var out []api.RuneRange
	for _, r := range rising {
		last := len(out) - 1
		if last < 0 || r.Lo > out[last].Hi+1 {
			out = append(out, r)
			continue
		}
		out[last].Hi = max(out[last].Hi, r.Hi)
	}
	return out
}

// others: all runes that aren't in these ranges.
func others(set []api.RuneRange) []api.RuneRange {
	var out []api.RuneRange
	next := rune(0)
	for _, r := range merged(set) {
		if next < r.Lo {
			out = append(out, api.RuneRange{Lo: next, Hi: r.Lo - 1})
		}
		next = r.Hi + 1
	}
	if next <= maxRune {
		out = append(out, api.RuneRange{Lo: next, Hi: maxRune})
	}
	return out
}

// oneOf: the node of one rune out of these ranges.
func oneOf(set []api.RuneRange) api.Rx {
	set = merged(set)
	if len(set) == 1 && set[0].Lo == set[0].Hi {
		return api.Rx{Kind: api.RxLit, R: set[0].Lo}
	}
	return api.Rx{Kind: api.RxClass, Ranges: set}
}

func isDigit(r rune) bool { return '0' <= r && r <= '9' }

func isLetter(r rune) bool { return 'A' <= r && r <= 'Z' || 'a' <= r && r <= 'z' }

func isWord(r rune) bool { return isDigit(r) || isLetter(r) || r == '_' }

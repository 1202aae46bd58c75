package rxtree

import (
	"slices"

	"weir/api"
)

// flags are those of a pattern's flags that are set.
type flags uint8

const (
	foldCase  flags = 1 << iota // i
	manyLines                   // m
	dotAll                      // s
	lazyFirst                   // U
)

// bracket: the piece that begins with the open bracket at the place.
func (p *reader) bracket() api.Rx {
	if p.open == api.MaxRxDepth {
		panic(api.ErrDepth)
	}
	held := p.flags
	p.open++
	x := p.opening()
	inner := p.expression()
	if !p.takes(")") {
		panic(api.ErrRxBrackets)
	}
	p.open--
	p.flags = held
	if x.Kind != api.RxGroup {
		return inner
	}
	x.Kids = []api.Rx{inner}
	return x
}

// opening: the node, still without its kid, of the group that begins at the place; the zero node where a bracket that is no group begins.
func (p *reader) opening() api.Rx {
	switch {
	case p.takes("(?:"), p.turns(":"):
		return api.Rx{}
	case p.takes("(?P<"), p.takes("(?<"):
		return p.group(p.name())
	case p.sees("(?"):
		panic(api.ErrRxFlags)
	}
	p.take()
	return p.group("")
}

// name: a group's name, and the `>` behind it passed over.
func (p *reader) name() string {
	from := p.at
	for isWord(p.ahead(0)) {
		p.at++
	}
	name := string(p.runes[from:p.at])
	if name == "" || !p.takes(">") {
		panic(api.ErrRxGroup)
	}
	return name
}

// group: the node, still without its kid, of the next group.
func (p *reader) group(name string) api.Rx {
	if len(p.names) == api.MaxRxGroups || name != "" && slices.Contains(p.names, name) {
		panic(api.ErrRxGroup)
	}
	p.names = append(p.names, name)
	return api.Rx{Kind: api.RxGroup, Cap: len(p.names), Name: name}
}

// turns: whether `(?`, flags and this end stand at the place; if so they are passed over and the flags turned.
func (p *reader) turns(end string) bool {
	from := p.at
	set, cleared, ok := p.turning()
	if !ok || !p.takes(end) {
		p.at = from
		return false
	}
	p.flags = (p.flags | set) &^ cleared
	return true
}

// turning: the flags behind a `(?`, as far as they are rightly written.
func (p *reader) turning() (set, cleared flags, ok bool) {
	if !p.takes("(?") {
		return 0, 0, false
	}
	set = p.letters()
	if !p.takes("-") {
		return set, 0, set != 0
	}
	cleared = p.letters()
	return set, cleared, cleared != 0
}

// letters: the flags whose letters stand at the place.
func (p *reader) letters() flags {
	var fs flags
	for {
		f := flagOf(p.ahead(0))
		if f == 0 {
			return fs
		}
		fs |= f
		p.at++
	}
}

// flagOf: the flag of a letter; 0 if it is none.
func flagOf(r rune) flags {
	switch r {
	case 'i':
		return foldCase
	case 'm':
		return manyLines
	case 's':
		return dotAll
	case 'U':
		return lazyFirst
	}
	return 0
}

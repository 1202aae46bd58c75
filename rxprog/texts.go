package rxprog

import (
	"slices"

	"weir/api"
	"weir/utf"
)

// isHollow: whether a valid node matches the empty text from 0 to 0.
func isHollow(x api.Rx) bool {
	switch x.Kind {
	case api.RxLit, api.RxClass, api.RxWord:
		return false
	case api.RxCat:
		return !slices.ContainsFunc(x.Kids, isSolid)
	case api.RxAlt:
		return slices.ContainsFunc(x.Kids, isHollow)
	case api.RxRepeat:
		return x.Min == 0 || isHollow(x.Kids[0])
	case api.RxGroup:
		return isHollow(x.Kids[0])
	}
	return true // RxEmpty and each place but a word's edge
}

func isSolid(x api.Rx) bool { return !isHollow(x) }

// asksPlaces: whether a node of the kinds RxBegin to RxNotWord is in a valid tree.
func asksPlaces(x api.Rx) bool {
	return x.Kind >= api.RxBegin || slices.ContainsFunc(x.Kids, asksPlaces)
}

// A stock is the texts that a node matches, each once, in the order of their bytes; or, many, that there are more than MaxWords of them (texts is nil then).
type stock struct {
	texts []string
	many  bool
}

// emptyText: the stock of what matches the empty text alone.
func emptyText() stock { return stock{texts: []string{""}} }

// isNone: whether nothing at all is matched.
func (s *stock) isNone() bool { return !s.many && len(s.texts) == 0 }

// grows: whether more than the empty text is matched.
func (s *stock) grows() bool {
	return s.many || len(s.texts) > 1 || len(s.texts) == 1 && s.texts[0] != ""
}

func (s *stock) add(text string) {
	at, known := slices.BinarySearch(s.texts, text)
	switch {
	case s.many, known:
	case len(s.texts) == api.MaxWords:
		*s = stock{many: true}
	default:
		s.texts = slices.Insert(s.texts, at, text)
	}
}

// addAll adds what another node matches.
func (s *stock) addAll(more stock) {
	if more.many {
		*s = stock{many: true}
	}
	for _, text := range more.texts {
		s.add(text)
	}
}

// textsOf: the texts that a valid node with a program, without places in it, matches whole.
func textsOf(x api.Rx) stock {
	var out stock
	switch x.Kind {
	case api.RxEmpty:
		return emptyText()
	case api.RxLit:
		out.addRunes(api.RuneRange{Lo: x.R, Hi: x.R})
	case api.RxClass:
		for _, r := range x.Ranges {
			out.addRunes(r)
		}
	case api.RxCat:
		return rowOf(x.Kids)
	case api.RxAlt:
		for _, kid := range x.Kids {
			out.addAll(textsOf(kid))
		}
	case api.RxRepeat:
		return repeatsOf(x)
	case api.RxGroup:
		return textsOf(x.Kids[0])
	}
	return out
}

// addRunes adds the texts of a range's runes; some numbers in it may be in no text.
func (s *stock) addRunes(r api.RuneRange) {
	for one := r.Lo; one <= r.Hi && !s.many; one++ {
		if text, e := utf.Text([]rune{one}); e == api.OK {
			s.add(text)
		}
	}
}

// rowOf: the texts of nodes one behind the other. It goes by halves: long rows of runes would else be copied once for each of their runes.
func rowOf(kids []api.Rx) stock {
	if len(kids) == 1 {
		return textsOf(kids[0])
	}
	half := len(kids) / 2
	return joined(rowOf(kids[:half]), rowOf(kids[half:]))
}

// joined: each text of a with each of b behind it. Nothing behind something is nothing, however many there are; otherwise there are no fewer than of either.
func joined(a, b stock) stock {
	if a.isNone() || b.isNone() {
		return stock{}
	}
	if a.many || b.many {
		return stock{many: true}
	}
	var out stock
	for _, front := range a.texts {
		for _, back := range b.texts {
			out.add(front + back)
			if out.many {
				return out
			}
		}
	}
	return out
}

// repeatsOf: the texts of a repeat. Where the kid has more than the empty text each further time makes a longer one, so without an end there are endlessly many.
func repeatsOf(x api.Rx) stock {
	if x.Max == 0 {
		return emptyText()
	}
	kid := textsOf(x.Kids[0])
	if !kid.grows() {
		if x.Min == 0 {
			return emptyText()
		}
		return kid
	}
	if x.Max == -1 {
		return stock{many: true}
	}
	row := emptyText()
	for range x.Min {
		row = joined(row, kid)
	}
	var out stock
	out.addAll(row)
	for range x.Max - x.Min {
		row = joined(row, kid)
		out.addAll(row)
	}
	return out
}

package fns

import (
	"cmp"
	"slices"
	"strings"

	"weir/api"
	"weir/labels"
	"weir/lex"
	"weir/utf"
)

// joined: what LabelJoin answers. The vector is sound, the caller's own, and used up.
func joined(v []api.Elem, dst, sep string, srcs []string) ([]api.Elem, api.Errno) {
	if !lex.IsLabel(dst) || slices.ContainsFunc(srcs, func(name string) bool { return !lex.IsLabel(name) }) {
		return nil, api.ErrDest
	}
	if !utf.Valid(sep) {
		return nil, api.ErrUTF
	}
	j := newJoiner(sep, srcs)
	for i, el := range v {
		text, ok := j.join(el.Labels)
		if !ok {
			return nil, api.ErrLong
		}
		v[i].Labels = labels.With(el.Labels, dst, text)
	}
	return ordered(v)
}

// A joiner knows at which places the label of each name comes, from 0 to the last one, with a separator between each two places.
type joiner struct {
	sep    string
	last   int
	places map[string][]int
}

func newJoiner(sep string, srcs []string) joiner {
	j := joiner{sep: sep, last: max(0, len(srcs)-1), places: make(map[string][]int, len(srcs))}
	for at, name := range srcs {
		j.places[name] = append(j.places[name], at)
	}
	return j
}

// A piece is a label's value at its place.
type piece struct {
	at    int
	value string
}

// join: the values of an element's labels, joined; false, if that is too long.
func (j joiner) join(ls []api.Label) (string, bool) {
	pieces, ok := j.pieces(ls)
	if !ok {
		return "", false
	}
	var text strings.Builder
	at := 0
	for _, p := range pieces {
		text.WriteString(strings.Repeat(j.sep, p.at-at))
		text.WriteString(p.value)
		at = p.at
	}
	text.WriteString(strings.Repeat(j.sep, j.last-at))
	return text.String(), true
}

// pieces: what is joined of an element, in order; false, if that is too long. It goes by the element's own labels, as there may be very many places at which none of them comes.
func (j joiner) pieces(ls []api.Label) ([]piece, bool) {
	size := j.last * len(j.sep)
	var found []piece
	for _, l := range ls {
		for _, at := range j.places[l.Name] {
			size += len(l.Value)
			if size > api.MaxMade {
				return nil, false
			}
			found = append(found, piece{at, l.Value})
		}
	}
	slices.SortFunc(found, func(a, b piece) int { return cmp.Compare(a.at, b.at) })
	return found, size <= api.MaxMade
}

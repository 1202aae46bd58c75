package fns

import (
	"weir/api"
	"weir/labels"
	"weir/lex"
	"weir/rx"
	"weir/utf"
)

// replaced: what LabelReplace answers. The vector is sound, the caller's own, and used up.
func replaced(v []api.Elem, dst, template, src, pattern string) ([]api.Elem, api.Errno) {
	if !lex.IsLabel(dst) || !lex.IsLabel(src) {
		return nil, api.ErrDest
	}
	if !utf.Valid(template) {
		return nil, api.ErrUTF
	}
	re, e := rx.Compile(pattern)
	if e != api.OK {
		return nil, e
	}
	size := filledSize(re, template)
	for i, el := range v {
		value := labels.Get(el.Labels, src)
		groups := re.Groups(value)
		if len(groups) == 0 {
			continue
		}
		if size(groups) > api.MaxMade {
			return nil, api.ErrLong
		}
		v[i].Labels = labels.With(el.Labels, dst, re.Expand(template, value, groups))
	}
	return ordered(v)
}

// filledSize: a call that tells how long the template gets, filled with groups at some places. It is asked ahead of filling it, which could take more memory than there is.
//
// The template is filled with nothing, and then with one byte for each group, that of the group's number: a regex has fewer groups than there are runes of one byte. What the second text has more of a byte tells how often the group comes.
func filledSize(re *rx.Regex, template string) func(groups []int) int {
	var marks []byte
	var places []int
	for i := range re.Count() + 1 {
		marks = append(marks, byte(i))
		places = append(places, i, i+1)
	}
	bare := re.Expand(template, "", nil)
	marked := re.Expand(template, string(marks), places)
	var often [1 << 8]int
	for i := range len(marked) {
		often[marked[i]]++
	}
	for i := range len(bare) {
		often[bare[i]]--
	}
	return func(groups []int) int {
		size := len(bare)
		for i := range len(groups) / 2 {
			size += often[i] * (groups[2*i+1] - groups[2*i])
		}
		return size
	}
}

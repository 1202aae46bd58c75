package rx_test

import (
	"math/big"
	"regexp"
	"slices"
	"strings"
	"unicode/utf8"

	"weir/api"
	"weir/rx"
)

// The chapter's words, a second time and slowly.

// A trial is a search that calls itself for each point; a way's slots are handed on, so that nothing has to be taken back.
type trial struct {
	p     api.Prog
	s     string
	tried map[[2]int]bool
	found []int
}

// findingByWords: what Run has to answer of a sound program.
func findingByWords(p api.Prog, s string) []int {
	t := trial{p: p, s: s, tried: map[[2]int]bool{}}
	slots := make([]int, 2*(p.Groups+1))
	for i := range slots {
		slots[i] = -1
	}
	if !t.try(p.Start, 0, slots) {
		return nil
	}
	return append([]int{0, len(s)}, t.found[2:]...)
}

func (t *trial) try(i, at int, slots []int) bool {
	if t.tried[[2]int{i, at}] {
		return false
	}
	t.tried[[2]int{i, at}] = true
	in := t.p.Insts[i]
	ok := true
	switch in.Op {
	case 1:
		t.found = slots
		return at == len(t.s)
	case 2:
		width := runeWidth(t.s, at, in.Ranges)
		return width > 0 && t.try(in.Out, at+width, slots)
	case 3:
		return t.try(in.Out, at, slots) || t.try(in.Alt, at, slots)
	case 4:
		slots = slices.Clone(slots)
		slots[in.Arg] = at
	case 5:
		ok = at == 0
	case 6:
		ok = at == len(t.s)
	case 7:
		ok = strings.HasSuffix("\n"+t.s[:at], "\n")
	case 8:
		ok = strings.HasPrefix(t.s[at:]+"\n", "\n")
	case 9:
		ok = edge(t.s, at) == (in.Arg == 0)
	case 11:
		return false
	}
	return ok && t.try(in.Out, at, slots)
}

// runeWidth: the width of the rune that begins at a place, if it is in one of the ranges; else 0.
func runeWidth(s string, at int, ranges []api.RuneRange) int {
	for n := 1; n <= 4 && at+n <= len(s); n++ {
		if !utf8.ValidString(s[at : at+n]) {
			continue
		}
		r := []rune(s[at : at+n])[0]
		for _, g := range ranges {
			if g.Lo <= r && r <= g.Hi {
				return n
			}
		}
		break
	}
	return 0
}

const wordBytes = "0123456789ABCDEFGHIJKLMNOPQRSTUVWXYZabcdefghijklmnopqrstuvwxyz_"

func edge(s string, at int) bool {
	n := 0
	for _, k := range []int{at - 1, at} {
		if k >= 0 && k < len(s) && strings.IndexByte(wordBytes, s[k]) >= 0 {
			n++
		}
	}
	return n == 1
}

// matches: whether a valid tree matches a text whole, by layer 9's words.
func matches(x api.Rx, s string) bool {
	from := make([]bool, len(s)+1)
	from[0] = true
	return behind(x, s, from)[len(s)]
}

// behind: the places up to which a node matches from one of these on.
func behind(x api.Rx, s string, from []bool) []bool {
	out := make([]bool, len(s)+1)
	switch x.Kind {
	case api.RxCat:
		out = from
		for _, kid := range x.Kids {
			out = behind(kid, s, out)
		}
	case api.RxAlt:
		for _, kid := range x.Kids {
			mark(out, behind(kid, s, from))
		}
	case api.RxGroup:
		out = behind(x.Kids[0], s, from)
	case api.RxRepeat:
		most := x.Max
		if most == -1 {
			most = x.Min + len(s) + 1 // of more times than there are places one at least moved on nowhere
		}
		for k := range most + 1 {
			if k >= x.Min {
				mark(out, from)
			}
			from = behind(x.Kids[0], s, from)
		}
	default:
		for i := range from {
			if from[i] {
				if j := leafEnd(x, s, i); j >= 0 {
					out[j] = true
				}
			}
		}
	}
	return out
}

func mark(out, more []bool) {
	for i := range more {
		out[i] = out[i] || more[i]
	}
}

// leafEnd: the place up to which a node without kids matches from i on; -1 if it doesn't.
func leafEnd(x api.Rx, s string, i int) int {
	ok := true
	switch x.Kind {
	case api.RxLit, api.RxClass:
		ranges := x.Ranges
		if x.Kind == api.RxLit {
			ranges = []api.RuneRange{{Lo: x.R, Hi: x.R}}
		}
		width := runeWidth(s, i, ranges)
		ok = width > 0
		i += width
	case api.RxBegin:
		ok = i == 0
	case api.RxEnd:
		ok = i == len(s)
	case api.RxLineBegin:
		ok = i == 0 || s[i-1] == 10
	case api.RxLineEnd:
		ok = i == len(s) || s[i] == 10
	case api.RxWord:
		ok = edge(s, i)
	case api.RxNotWord:
		ok = !edge(s, i)
	}
	if ok {
		return i
	}
	return -1
}

var (
	templateName = regexp.MustCompile(`\$\$|\$\{[0-9A-Za-z_]+\}|\$[0-9A-Za-z_]+`)
	plainNumber  = regexp.MustCompile(`^(0|[1-9][0-9]*)$`)
)

// expandByWords: what Expand has to answer; the library's own patterns find the names.
func expandByWords(r *rx.Regex, template, s string, groups []int) string {
	return templateName.ReplaceAllStringFunc(template, func(piece string) string {
		if piece == "$$" {
			return "$"
		}
		name := strings.Trim(piece, "${}")
		if plainNumber.MatchString(name) {
			n, _ := new(big.Int).SetString(name, 10)
			if n.Cmp(big.NewInt(1<<31)) < 0 {
				return groupByWords(s, groups, int(n.Int64()))
			}
		}
		for i := 1; i <= r.Count(); i++ {
			if r.Name(i) == name {
				return groupByWords(s, groups, i)
			}
		}
		return ""
	})
}

func groupByWords(s string, groups []int, n int) string {
	var ends []int
	for i, place := range groups {
		if i/2 == n {
			ends = append(ends, place)
		}
	}
	if len(ends) < 2 || ends[0] < 0 || ends[1] < ends[0] || len(s) < ends[1] {
		return ""
	}
	return s[ends[0]:ends[1]]
}

package rx

import (
	"slices"
	"strconv"
	"strings"
)

// expand: a template, gone through from the left, with what stands for each name in its place.
func expand(template string, textOf func(name string) string) string {
	var out strings.Builder
	for {
		plain, rest, found := strings.Cut(template, "$")
		out.WriteString(plain)
		if !found {
			return out.String()
		}
		name, width := nameAhead(rest)
		switch {
		case width > 0:
			out.WriteString(textOf(name))
		case strings.HasPrefix(rest, "$"):
			out.WriteString("$")
			width = 1
		default:
			out.WriteString("$")
		}
		template = rest[width:]
	}
}

// nameAhead: the name with which a text begins that stands behind a $, and how many bytes it takes there, its braces counted; "" and 0, if there is none.
func nameAhead(s string) (name string, width int) {
	inner, braced := strings.CutPrefix(s, "{")
	n := 0
	for n < len(inner) && isWordByte(inner[n]) {
		n++
	}
	switch {
	case n == 0:
		return "", 0
	case !braced:
		return inner[:n], n
	case strings.HasPrefix(inner[n:], "}"):
		return inner[:n], n + 2
	}
	return "", 0
}

// groupOf: the number of the group that a name in a template means; -1, if no group has it. A number too great, or with a 0 at its head, is a name like any other.
func groupOf(name string, names []string) int {
	n, err := strconv.ParseInt(name, 10, 32)
	if err == nil && (name[0] != '0' || name == "0") {
		return int(n)
	}
	if k := slices.Index(names, name); k >= 0 {
		return k + 1
	}
	return -1
}

// groupText: the text of group number n, by places that may be any.
func groupText(s string, groups []int, n int) string {
	if n < 0 || n >= len(groups)/2 {
		return ""
	}
	lo, hi := groups[2*n], groups[2*n+1]
	if lo < 0 || lo > hi || hi > len(s) {
		return ""
	}
	return s[lo:hi]
}

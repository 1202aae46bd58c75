package rxtree

import (
	"slices"
	"strings"

	"weir/api"
)

// A survey is what has been found in a tree.
type survey struct {
	nodes int
	names []string // of the groups so far; "" of one without a name
	lines bool     // there is a line's beginning or end among the nodes
}

// surveyed: what is found in a valid tree; given up with ErrArg over any other.
func surveyed(x api.Rx) survey {
	var s survey
	s.node(x, 0)
	return s
}

// node looks at a node that stands inside so many brackets, and at all below it. It gives up as soon as there is one node too many: a tree's lists may stand in it again and again, even inside themselves.
func (s *survey) node(x api.Rx, open int) {
	s.nodes++
	if s.nodes > api.MaxRxNodes || open > api.MaxRxDepth || !isSound(x) {
		panic(api.ErrArg)
	}
	switch x.Kind {
	case api.RxLineBegin, api.RxLineEnd:
		s.lines = true
	case api.RxGroup:
		s.group(x)
		open++
	}
	for _, kid := range x.Kids {
		if isBracketed(x.Kind, kid.Kind) {
			s.node(kid, open+1)
		} else {
			s.node(kid, open)
		}
	}
}

// group holds a group's number and name against those of the groups ahead of it.
func (s *survey) group(x api.Rx) {
	if len(s.names) == api.MaxRxGroups || x.Cap != len(s.names)+1 || x.Name != "" && slices.Contains(s.names, x.Name) {
		panic(api.ErrArg)
	}
	s.names = append(s.names, x.Name)
}

// isSound: whether a node, its kids aside, is as its kind asks.
func isSound(x api.Rx) bool {
	if hasStray(x) {
		return false
	}
	switch x.Kind {
	case api.RxEmpty, api.RxBegin, api.RxEnd, api.RxLineBegin, api.RxLineEnd, api.RxWord, api.RxNotWord:
		return len(x.Kids) == 0
	case api.RxLit:
		return len(x.Kids) == 0 && isRune(x.R)
	case api.RxClass:
		return len(x.Kids) == 0 && isSet(x.Ranges)
	case api.RxCat, api.RxAlt:
		return len(x.Kids) >= 2
	case api.RxRepeat:
		return len(x.Kids) == 1 && isTimes(x.Min, x.Max)
	case api.RxGroup:
		return len(x.Kids) == 1 && isName(x.Name)
	}
	return false
}

// hasStray: whether a field, Kids aside, isn't zero though the node's kind doesn't name it.
func hasStray(x api.Rx) bool {
	return x.Kind != api.RxLit && x.R != 0 ||
		x.Kind != api.RxClass && len(x.Ranges) != 0 ||
		x.Kind != api.RxRepeat && (x.Min != 0 || x.Max != 0 || x.Lazy) ||
		x.Kind != api.RxGroup && (x.Cap != 0 || x.Name != "")
}

func isRune(r rune) bool { return 0 <= r && r <= maxRune }

// isSet: whether ranges stand as those of a class do.
func isSet(set []api.RuneRange) bool {
	for i, r := range set {
		if !isRune(r.Lo) || !isRune(r.Hi) || r.Lo > r.Hi {
			return false
		}
		if i > 0 && r.Lo <= set[i-1].Hi+1 {
			return false
		}
	}
	return len(set) != 1 || set[0].Lo < set[0].Hi
}

func isTimes(least, most int) bool {
	return 0 <= least && least <= api.MaxRepeat && (most == -1 || least <= most && most <= api.MaxRepeat)
}

// isName: whether a group may have that name or, if it is empty, none.
func isName(name string) bool {
	return strings.IndexFunc(name, func(r rune) bool { return !isWord(r) }) < 0
}

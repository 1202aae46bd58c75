package rxtree_test

import (
	"math/rand/v2"
	"regexp"
	"slices"
	"strconv"
	"strings"

	"weir/api"
	"weir/rxtree"
)

const maxRune = 0x10FFFF

// someRand: always the same numbers in no order.
func someRand() *rand.Rand {
	return rand.New(rand.NewPCG(8, 1))
}

// Trees, written short.

func of(kind int) api.Rx { return api.Rx{Kind: kind} }

func empty() api.Rx { return of(api.RxEmpty) }

func lit(r rune) api.Rx { return api.Rx{Kind: api.RxLit, R: r} }

// class: the ranges whose ends the numbers are, two by two.
func class(ends ...rune) api.Rx {
	x := of(api.RxClass)
	for i := 0; i < len(ends); i += 2 {
		x.Ranges = append(x.Ranges, api.RuneRange{Lo: ends[i], Hi: ends[i+1]})
	}
	return x
}

func cat(kids ...api.Rx) api.Rx { return api.Rx{Kind: api.RxCat, Kids: kids} }

func alt(kids ...api.Rx) api.Rx { return api.Rx{Kind: api.RxAlt, Kids: kids} }

func rep(least, most int, kid api.Rx) api.Rx {
	return api.Rx{Kind: api.RxRepeat, Min: least, Max: most, Kids: []api.Rx{kid}}
}

func lazy(least, most int, kid api.Rx) api.Rx {
	x := rep(least, most, kid)
	x.Lazy = true
	return x
}

func group(number int, name string, kid api.Rx) api.Rx {
	return api.Rx{Kind: api.RxGroup, Cap: number, Name: name, Kids: []api.Rx{kid}}
}

// row: the runes of a text as P8.4 says.
func row(s string) api.Rx {
	var kids []api.Rx
	for _, r := range s {
		kids = append(kids, lit(r))
	}
	return joined(api.RxCat, kids)
}

func joined(kind int, kids []api.Rx) api.Rx {
	if len(kids) == 0 {
		return empty()
	}
	if len(kids) == 1 {
		return kids[0]
	}
	return api.Rx{Kind: kind, Kids: kids}
}

// same: whether two trees are the same, where nil is an empty list.
func same(a, b api.Rx) bool {
	return a.Kind == b.Kind && a.R == b.R && slices.Equal(a.Ranges, b.Ranges) &&
		a.Min == b.Min && a.Max == b.Max && a.Lazy == b.Lazy && a.Cap == b.Cap && a.Name == b.Name &&
		slices.EqualFunc(a.Kids, b.Kids, same)
}

// clone: the same tree in memory of its own.
func clone(x api.Rx) api.Rx {
	x.Ranges = slices.Clone(x.Ranges)
	x.Kids = slices.Clone(x.Kids)
	for i := range x.Kids {
		x.Kids[i] = clone(x.Kids[i])
	}
	return x
}

// nodes: a tree's nodes, each ahead of its kids, those from the left.
func nodes(x api.Rx) []api.Rx {
	return withNodes(nil, x)
}

func withNodes(out []api.Rx, x api.Rx) []api.Rx {
	out = append(out, x)
	for _, kid := range x.Kids {
		out = withNodes(out, kid)
	}
	return out
}

// The chapter's words on reading, a second time: the forms of what may stand at a place are patterns of the library's own, and open brackets are kept in a list.

var (
	repeatForm  = regexp.MustCompile(`^(?:(\*)|(\+)|(\?)|\{([0-9]+)\}|\{([0-9]+),\}|\{([0-9]+),([0-9]+)\})(\?)?`)
	settingForm = regexp.MustCompile(`^\(\?(?:([imsU]+)|([imsU]*)-([imsU]+))\)`)
	turningForm = regexp.MustCompile(`^\(\?(?:([imsU]+)|([imsU]*)-([imsU]+)):`)
	namedForm   = regexp.MustCompile(`^\(\?P?<([0-9A-Za-z_]+)>`)
	quotedForm  = regexp.MustCompile(`(?s)^\\Q(.*?)(?:\\E|\z)`)
	hexForm     = regexp.MustCompile(`^\\x(?:([0-9A-Fa-f]{2})|\{([0-9A-Fa-f]+)\})`)
	plainForm   = regexp.MustCompile(`^\\([^0-9A-Za-z\x{80}-\x{10ffff}])`)
	escapeForm  = regexp.MustCompile(`(?s)\\[^x]|\\x\{[0-9a-f]+\}`) // of canonical texts
	nameForm    = regexp.MustCompile(`\A[0-9A-Za-z_]*\z`)
	specialForm = regexp.MustCompile(`[\\.+*?()|\[\]{}^$]`)
	setForm     = regexp.MustCompile(`(?s)^\[:(\^?)(.*?):\]`)
)

// An open bracket, or the whole pattern.
type openOne struct {
	alternatives []api.Rx // that have ended
	pieces       []api.Rx // of the one that hasn't
	bare         bool     // a piece stands right ahead that has no repeat yet
	held         string   // the flags at the bracket
	group        int      // 0 if it is none
	name         string
}

func (o *openOne) push(xs ...api.Rx) {
	o.pieces = append(o.pieces, xs...)
	o.bare = len(xs) > 0
}

func (o *openOne) end() api.Rx {
	return joined(api.RxAlt, append(o.alternatives, joined(api.RxCat, o.pieces)))
}

type byWords struct {
	rest  string // what is still to be read
	flags string
	open  []*openOne // the whole pattern first
	names []string
}

func (w *byWords) inner() *openOne { return w.open[len(w.open)-1] }

func (w *byWords) has(flag string) bool { return strings.Contains(w.flags, flag) }

// take: what the form says of the text at the place, which is passed over; nil if it doesn't stand there.
func (w *byWords) take(form *regexp.Regexp) []string {
	m := form.FindStringSubmatch(w.rest)
	if m != nil {
		w.rest = w.rest[len(m[0]):]
	}
	return m
}

func (w *byWords) turn(set, cleared string) {
	w.flags += set
	for _, f := range cleared {
		w.flags = strings.ReplaceAll(w.flags, string(f), "")
	}
}

// parseByWords: what Parse has to answer.
func parseByWords(pattern string) (api.Rx, api.Errno) {
	if len(pattern) > api.MaxPattern {
		return api.Rx{}, api.ErrLong
	}
	if strings.ToValidUTF8(pattern, "") != pattern {
		return api.Rx{}, api.ErrUTF
	}
	w := &byWords{rest: pattern, open: []*openOne{{}}}
	for w.rest != "" {
		if e := w.step(); e != api.OK {
			return api.Rx{}, e
		}
	}
	if len(w.open) > 1 {
		return api.Rx{}, api.ErrRxBrackets
	}
	return w.inner().end(), api.OK
}

// step reads what stands at the place.
func (w *byWords) step() api.Errno {
	if m := w.take(repeatForm); m != nil {
		return w.repeat(m)
	}
	if m := w.take(settingForm); m != nil {
		w.turn(m[1]+m[2], m[3])
		w.inner().bare = false
		return api.OK
	}
	if m := w.take(quotedForm); m != nil {
		var xs []api.Rx
		for _, r := range m[1] {
			xs = append(xs, w.single(r))
		}
		w.inner().push(xs...)
		return api.OK
	}
	switch w.rest[0] {
	case '|':
		o := w.inner()
		o.alternatives = append(o.alternatives, joined(api.RxCat, o.pieces))
		o.pieces, o.bare = nil, false
		w.rest = w.rest[1:]
		return api.OK
	case '(':
		return w.bracket()
	case ')':
		return w.close()
	}
	x, e := w.piece()
	if e == api.OK {
		w.inner().push(x)
	}
	return e
}

func (w *byWords) repeat(m []string) api.Errno {
	o := w.inner()
	x := of(api.RxRepeat)
	text := func(first, second string) bool {
		n, far1 := wholeNumber(first)
		k, far2 := wholeNumber(second)
		x.Min, x.Max = n, k
		return far1 || far2 || k < n
	}
	wrong := false
	switch {
	case m[1] != "":
		x.Min, x.Max = 0, -1
	case m[2] != "":
		x.Min, x.Max = 1, -1
	case m[3] != "":
		x.Min, x.Max = 0, 1
	case m[4] != "":
		wrong = text(m[4], m[4])
	case m[5] != "":
		wrong = text(m[5], m[5])
		x.Max = -1
	default:
		wrong = text(m[6], m[7])
	}
	if wrong || !o.bare {
		return api.ErrRxRepeat
	}
	x.Lazy = m[8] != ""
	if w.has("U") {
		x.Lazy = !x.Lazy
	}
	last := len(o.pieces) - 1
	x.Kids = []api.Rx{o.pieces[last]}
	o.pieces[last], o.bare = x, false
	return api.OK
}

// wholeNumber: a number of any length, and whether it is above MaxRepeat.
func wholeNumber(s string) (int, bool) {
	s = strings.TrimLeft(s, "0")
	if len(s) > 4 {
		return 0, true
	}
	n, _ := strconv.Atoi("0" + s)
	return n, n > api.MaxRepeat
}

func (w *byWords) bracket() api.Errno {
	if len(w.open) > api.MaxRxDepth { // the pattern itself is in the list
		return api.ErrDepth
	}
	o := &openOne{held: w.flags}
	capturing := false
	if strings.HasPrefix(w.rest, "(?:") {
		w.rest = w.rest[3:]
	} else if m := w.take(turningForm); m != nil {
		w.turn(m[1]+m[2], m[3])
	} else if m := w.take(namedForm); m != nil {
		capturing, o.name = true, m[1]
	} else if strings.HasPrefix(w.rest, "(?P<") || strings.HasPrefix(w.rest, "(?<") {
		return api.ErrRxGroup
	} else if strings.HasPrefix(w.rest, "(?") {
		return api.ErrRxFlags
	} else {
		w.rest = w.rest[1:]
		capturing = true
	}
	if capturing {
		if len(w.names) >= api.MaxRxGroups || o.name != "" && slices.Index(w.names, o.name) >= 0 {
			return api.ErrRxGroup
		}
		w.names = append(w.names, o.name)
		o.group = len(w.names)
	}
	w.open = append(w.open, o)
	return api.OK
}

func (w *byWords) close() api.Errno {
	if len(w.open) == 1 {
		return api.ErrRxBrackets
	}
	o := w.inner()
	w.open = w.open[:len(w.open)-1]
	w.rest = w.rest[1:]
	w.flags = o.held
	x := o.end()
	if o.group > 0 {
		x = group(o.group, o.name, x)
	}
	w.inner().push(x)
	return api.OK
}

// first: the rune at the place, passed over.
func (w *byWords) first() rune {
	for i, r := range w.rest {
		if i == 0 {
			w.rest = w.rest[len(string(r)):]
			return r
		}
	}
	panic("no rune is left")
}

func (w *byWords) single(r rune) api.Rx {
	if w.has("i") && isLetter(r) {
		return class(r&^0x20, r&^0x20, r|0x20, r|0x20)
	}
	return lit(r)
}

func isLetter(r rune) bool {
	return strings.ContainsRune("abcdefghijklmnopqrstuvwxyzABCDEFGHIJKLMNOPQRSTUVWXYZ", r)
}

// piece: one piece that isn't a bracket.
func (w *byWords) piece() (api.Rx, api.Errno) {
	lines := 0
	if w.has("m") {
		lines = api.RxLineBegin - api.RxBegin // and from the text's end to the line's it is as far
	}
	for i, text := range []string{`\A`, `\z`, `\b`, `\B`, "^", "$"} {
		if strings.HasPrefix(w.rest, text) {
			w.rest = w.rest[len(text):]
			return of([]int{api.RxBegin, api.RxEnd, api.RxWord, api.RxNotWord, api.RxBegin + lines, api.RxEnd + lines}[i]), api.OK
		}
	}
	if w.rest[0] == '[' {
		w.rest = w.rest[1:]
		return w.class()
	}
	if w.rest[0] == '.' {
		w.rest = w.rest[1:]
		if w.has("s") {
			return class(0, maxRune), api.OK
		}
		return class(0, 9, 11, maxRune), api.OK
	}
	if s, ok := w.setEscape(); ok {
		return s.node(), api.OK
	}
	r, e := w.oneRune()
	if e != api.OK {
		return api.Rx{}, e
	}
	return w.single(r), api.OK
}

// oneRune: a rune that stands for itself, or an escape that gives one rune.
func (w *byWords) oneRune() (rune, api.Errno) {
	if w.rest[0] != '\\' {
		return w.first(), api.OK
	}
	if m := w.take(hexForm); m != nil {
		n, err := strconv.ParseUint(m[1]+m[2], 16, 64)
		if err != nil || n > maxRune {
			return 0, api.ErrRxEscape
		}
		return rune(n), api.OK
	}
	if m := w.take(plainForm); m != nil {
		return rune(m[1][0]), api.OK
	}
	if len(w.rest) > 1 {
		if at := strings.IndexByte("aftnrv", w.rest[1]); at >= 0 {
			w.rest = w.rest[2:]
			return []rune{7, 12, 9, 10, 13, 11}[at], api.OK
		}
	}
	return 0, api.ErrRxEscape
}

// A set of runes: a yes or no for each, and where it may change, ASCII aside.
type set struct {
	holds func(r rune) bool
	edges []rune
}

func between(lo, hi rune) set {
	return set{func(r rune) bool { return lo <= r && r <= hi }, []rune{lo, hi + 1}}
}

func runesOf(s string) set {
	return set{func(r rune) bool { return strings.ContainsRune(s, r) }, nil} // of ASCII alone
}

func union(a, b set) set {
	return set{func(r rune) bool { return a.holds(r) || b.holds(r) }, slices.Concat(a.edges, b.edges)}
}

func without(a set) set {
	return set{func(r rune) bool { return !a.holds(r) }, a.edges}
}

func folded(a set) set {
	return set{func(r rune) bool { return a.holds(r) || isLetter(r) && a.holds(r^0x20) }, a.edges}
}

// node: the ranges between the places at which the answer changes.
func (s set) node() api.Rx {
	edges := slices.Clone(s.edges)
	for r := range rune(129) {
		edges = append(edges, r)
	}
	slices.Sort(edges)
	x := of(api.RxClass)
	in := false
	for _, r := range edges {
		if r > maxRune || s.holds(r) == in {
			continue
		}
		in = !in
		if in {
			x.Ranges = append(x.Ranges, api.RuneRange{Lo: r, Hi: maxRune})
		} else {
			x.Ranges[len(x.Ranges)-1].Hi = r - 1
		}
	}
	if len(x.Ranges) == 1 && x.Ranges[0].Lo == x.Ranges[0].Hi {
		return lit(x.Ranges[0].Lo)
	}
	return x
}

// setEscape: the set of `\d` and its like.
func (w *byWords) setEscape() (set, bool) {
	if len(w.rest) < 2 || w.rest[0] != '\\' {
		return set{}, false
	}
	var s set
	switch w.rest[1] | 0x20 {
	case 'd':
		s = between('0', '9')
	case 's':
		s = runesOf("\t\n\f\r ")
	case 'w':
		s, _ = namedSet("word")
	default:
		return set{}, false
	}
	if w.rest[1]&0x20 == 0 {
		s = without(s)
	}
	w.rest = w.rest[2:]
	return s, true
}

// namedSet: the chapter's sets.
func namedSet(name string) (set, bool) {
	lower, upper, digit := between('a', 'z'), between('A', 'Z'), between('0', '9')
	alpha := union(lower, upper)
	sets := map[string]set{
		"alnum": union(alpha, digit), "alpha": alpha, "ascii": between(0, 127), "blank": runesOf("\t "),
		"cntrl": union(between(0, 31), between(127, 127)), "digit": digit, "graph": between(33, 126),
		"lower": lower, "print": between(32, 126), "punct": runesOf("!\"#$%&'()*+,-./:;<=>?@[\\]^_`{|}~"),
		"space": runesOf("\t\n\v\f\r "), "upper": upper, "word": union(union(alpha, digit), runesOf("_")),
		"xdigit": runesOf("0123456789ABCDEFabcdef"),
	}
	s, ok := sets[name]
	return s, ok
}

// class: a class whose `[` has been passed over.
func (w *byWords) class() (api.Rx, api.Errno) {
	all := set{func(rune) bool { return false }, nil}
	negated := strings.HasPrefix(w.rest, "^")
	w.rest = strings.TrimPrefix(w.rest, "^")
	for items := 0; items == 0 || !strings.HasPrefix(w.rest, "]"); items++ {
		if w.rest == "" {
			return api.Rx{}, api.ErrRxClass
		}
		item, e := w.item()
		if e != api.OK {
			return api.Rx{}, e
		}
		all = union(all, item)
	}
	w.rest = w.rest[1:]
	if w.has("i") {
		all = folded(all)
	}
	if negated {
		all = without(all)
	}
	return all.node(), api.OK
}

// item: one item of a class.
func (w *byWords) item() (set, api.Errno) {
	if m := w.take(setForm); m != nil {
		s, ok := namedSet(m[2])
		if !ok {
			return set{}, api.ErrRxClass
		}
		if m[1] != "" {
			s = without(s)
		}
		return s, api.OK
	}
	if s, ok := w.setEscape(); ok {
		return s, api.OK
	}
	lo, e := w.oneRune()
	if e != api.OK {
		return set{}, e
	}
	if !strings.HasPrefix(w.rest, "-") || strings.HasPrefix(w.rest, "-]") {
		return between(lo, lo), api.OK
	}
	w.rest = w.rest[1:]
	if w.rest == "" {
		return set{}, api.ErrRxClass
	}
	hi, e := w.oneRune()
	if e != api.OK {
		return set{}, e
	}
	if hi < lo {
		return set{}, api.ErrRxClass
	}
	return between(lo, hi), api.OK
}

// The chapter's words on trees, a second time.

// textByWords: a tree's text, of whatever length, of trees with the right number of kids.
func textByWords(x api.Rx) string {
	for _, n := range nodes(x) {
		if n.Kind == api.RxLineBegin || n.Kind == api.RxLineEnd {
			return "(?m)" + written(x)
		}
	}
	return written(x)
}

// inBrackets: the kinds of kids about which brackets stand, by the kind of node.
var inBrackets = map[int][]int{
	api.RxAlt:    {api.RxAlt},
	api.RxCat:    {api.RxAlt, api.RxCat, api.RxEmpty},
	api.RxRepeat: {api.RxAlt, api.RxCat, api.RxEmpty, api.RxRepeat},
}

// signs: the texts of the kinds without fields.
var signs = map[int]string{api.RxEmpty: "", api.RxBegin: `\A`, api.RxEnd: `\z`, api.RxLineBegin: "^", api.RxLineEnd: "$", api.RxWord: `\b`, api.RxNotWord: `\B`}

func written(x api.Rx) string {
	var kids []string
	for _, kid := range x.Kids {
		s := written(kid)
		if slices.Contains(inBrackets[x.Kind], kid.Kind) {
			s = "(?:" + s + ")"
		}
		kids = append(kids, s)
	}
	switch x.Kind {
	case api.RxLit:
		return writtenRune(x.R)
	case api.RxClass:
		return writtenClass(x.Ranges)
	case api.RxAlt:
		return strings.Join(kids, "|")
	case api.RxCat:
		return strings.Join(kids, "")
	case api.RxRepeat:
		return kids[0] + writtenRepeat(x)
	case api.RxGroup:
		if x.Name == "" {
			return "(" + kids[0] + ")"
		}
		return "(?P<" + x.Name + ">" + kids[0] + ")"
	}
	return signs[x.Kind]
}

func writtenRune(r rune) string {
	if strings.ContainsAny(string(r), `\.+*?()|[]{}^$`) {
		return `\` + string(r)
	}
	if r < 32 || r == 127 || r >= 0xD800 && r <= 0xDFFF {
		return `\x{` + strconv.FormatInt(int64(r), 16) + "}"
	}
	return string(r)
}

func writtenClass(ranges []api.RuneRange) string {
	if len(ranges) == 0 {
		return `[^\x{0}-\x{10ffff}]`
	}
	one := func(r rune) string {
		if isLetter(r) || '0' <= r && r <= '9' {
			return string(r)
		}
		return `\x{` + strconv.FormatInt(int64(r), 16) + "}"
	}
	s := ""
	for _, g := range ranges {
		s += one(g.Lo)
		if g.Lo != g.Hi {
			s += "-" + one(g.Hi)
		}
	}
	return "[" + s + "]"
}

func writtenRepeat(x api.Rx) string {
	s := "{" + strconv.Itoa(x.Min) + "," + strconv.Itoa(x.Max) + "}"
	if x.Min == x.Max {
		s = "{" + strconv.Itoa(x.Min) + "}"
	}
	s = strings.Replace(s, ",-1}", ",}", 1)
	if short, ok := map[string]string{"{0,}": "*", "{1,}": "+", "{0,1}": "?"}[s]; ok {
		s = short
	}
	if x.Lazy {
		s += "?"
	}
	return s
}

// depthOf: how many round brackets are open at most at one place of a canonical text.
func depthOf(canonical string) int {
	canonical = strings.TrimPrefix(canonical, "(?m)")
	canonical = escapeForm.ReplaceAllString(canonical, "")
	open, most := 0, 0
	for _, r := range canonical {
		switch r {
		case '(':
			open++
		case ')':
			open--
		}
		most = max(most, open)
	}
	return most
}

// validByWords: whether a tree that isn't too great to be gone through is valid.
func validByWords(x api.Rx) bool {
	all := nodes(x)
	names := map[string]int{}
	groups := 0
	for _, n := range all {
		if !fieldsByWords(n) {
			return false
		}
		if n.Kind != api.RxGroup {
			continue
		}
		groups++
		if n.Name != "" {
			names[n.Name]++
		}
		if n.Cap != groups || groups > api.MaxRxGroups || names[n.Name] > 1 {
			return false
		}
	}
	return len(all) <= api.MaxRxNodes && depthOf(textByWords(x)) <= api.MaxRxDepth
}

// fieldsByWords: whether a node's fields are as its kind asks, its kids' own fields aside.
func fieldsByWords(x api.Rx) bool {
	if x.Kind < 1 || x.Kind > 13 {
		return false
	}
	right := true
	rest := x // what is left once the fields that the kind names are taken away
	rest.Kind = 0
	switch x.Kind {
	case api.RxLit:
		right = 0 <= x.R && x.R <= maxRune
		rest.R = 0
	case api.RxClass:
		right = rangesByWords(x.Ranges)
		rest.Ranges = nil
	case api.RxCat, api.RxAlt:
		right = len(x.Kids) >= 2
		rest.Kids = nil
	case api.RxRepeat:
		right = len(x.Kids) == 1 && x.Min >= 0 && x.Min <= api.MaxRepeat && (x.Max == -1 || x.Max >= x.Min && x.Max <= api.MaxRepeat)
		rest.Kids, rest.Min, rest.Max, rest.Lazy = nil, 0, 0, false
	case api.RxGroup:
		right = len(x.Kids) == 1 && nameForm.MatchString(x.Name)
		rest.Kids, rest.Cap, rest.Name = nil, 0, ""
	}
	return right && same(rest, api.Rx{})
}

func rangesByWords(ranges []api.RuneRange) bool {
	held := 0
	free := rune(-1) // the ranges from here on aren't looked at yet
	for _, g := range ranges {
		if g.Lo < 0 || g.Hi > maxRune || g.Lo > g.Hi || g.Lo <= free {
			return false
		}
		held += int(g.Hi) - int(g.Lo) + 1
		free = g.Hi + 1
	}
	return held != 1
}

// quotedByWords: what Quote has to answer.
func quotedByWords(s string) string {
	return specialForm.ReplaceAllString(s, `\$0`)
}

// What the tests ask.

// texts: every row of at most most of the pieces.
func texts(most int, pieces ...string) []string {
	out := []string{""}
	for from := 0; most > 0; most-- {
		to := len(out)
		for _, s := range out[from:to] {
			for _, p := range pieces {
				out = append(out, s+p)
			}
		}
		from = to
	}
	return out
}

// parsed: the tree of a pattern that is known to be right.
func parsed(pattern string) api.Rx {
	x, e := rxtree.Parse(pattern)
	if e != api.OK {
		panic("not a pattern: " + strconv.Quote(pattern))
	}
	return x
}

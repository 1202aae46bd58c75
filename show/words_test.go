package show_test

import (
	"fmt"
	"regexp"
	"slices"
	"strings"
	"unicode/utf8"

	"weir/api"
	"weir/num"
	"weir/span"
	"weir/utf"
)

// The chapter's words, written down a second time and in another way (from rows instead of nodes, with each pair of brackets about a node told apart from the rest), to hold the package against.

// A piece is a part of a text. Pair: the number of the pair of brackets about a node that it belongs to, from 1 on; 0, if it is none.
type piece struct {
	text string
	pair int
}

// ranks: the operators, one level behind the other.
var ranks = []string{"", "or", "and unless", "== != < > <= >=", "+ -", "* / %", "a sign", "^"}

func rank(r api.Row) int {
	if r.Kind == 6 {
		return 6
	}
	at := slices.IndexFunc(ranks, func(ops string) bool { return slices.Contains(strings.Fields(ops), r.Op) })
	if r.Kind == 7 && at > 0 {
		return at
	}
	return 8
}

// enclosed: does the kid of that number and level stand in brackets?
func enclosed(r api.Row, kid, level int) bool {
	switch {
	case r.Kind == 5, r.Kind == 7 && r.Op == "^" && kid == 0:
		return level < 8
	case r.Kind == 6, r.Kind == 7 && r.Op == "^":
		return level < 6
	case r.Kind == 7 && kid == 0:
		return level < rank(r)
	case r.Kind == 7:
		return level <= rank(r)
	}
	return false
}

// form: a node's text with a byte 1 for the place of each kid that isn't a range's.
func form(r, kid api.Row) string {
	switch r.Kind {
	case 1:
		return r.Text
	case 2:
		return quoted(r.Text)
	case 3:
		return plain(r) + moved(r.When)
	case 4:
		return fmt.Sprintf("%s[%s]%s", plain(kid), r.Dur, moved(kid.When))
	case 5:
		return fmt.Sprintf("\x01[%s:%s]%s", r.Dur, r.Step, moved(r.When))
	case 6:
		return r.Op + "\x01"
	case 7:
		return strings.Join(slices.Concat([]string{"\x01", r.Op}, beside(r), []string{"\x01"}), " ")
	case 8:
		return r.Op + "(" + holes(r.Kids) + ")"
	}
	grouping := map[bool]string{true: " without" + list(r.Labels) + " ", false: " by" + list(r.Labels) + " "}[r.Without]
	if !r.Without && len(r.Labels) == 0 {
		grouping = ""
	}
	return r.Op + grouping + "(" + holes(r.Kids) + ")"
}

func holes(n int) string {
	return strings.Join(slices.Repeat([]string{"\x01"}, n), ", ")
}

// beside: the words between an operator and its right side.
func beside(r api.Row) []string {
	var words []string
	if r.Bool {
		words = append(words, "bool")
	}
	m := r.Matching
	if m.Given {
		words = append(words, map[bool]string{true: "on", false: "ignoring"}[m.On]+list(m.Labels))
	}
	if m.Card > 0 {
		words = append(words, []string{"", "group_left", "group_right"}[m.Card]+list(m.Include))
	}
	return words
}

func list(names []string) string {
	return "(" + strings.Join(names, ",") + ")"
}

func quoted(s string) string {
	lit, e := utf.Quote(s)
	if e != api.OK {
		panic("no text: " + s)
	}
	return lit
}

// plain: a selector without its When.
func plain(r api.Row) string {
	if r.Text != "" && len(r.Matchers) == 0 {
		return r.Text
	}
	return r.Text + braces(r.Matchers)
}

func braces(ms []api.Matcher) string {
	var all []string
	for _, m := range ms {
		all = append(all, m.Name+strings.Fields("= != =~ !~")[m.Op-1]+quoted(m.Value))
	}
	return "{" + strings.Join(all, ",") + "}"
}

func moved(w api.When) string {
	text := ""
	switch w.At {
	case "":
	case "start", "end":
		text = " @ " + w.At + "()"
	default:
		text = " @ " + w.At
	}
	if w.Offset != "" {
		text += " offset " + w.Offset
	}
	return text
}

// A teller tells rows as pieces. Brackets: which kids stand in them.
type teller struct {
	rows     []api.Row
	pairs    int
	brackets func(r api.Row, kid, level int) bool
}

// next: the pieces of the tree at the head of the rows that are left.
func (w *teller) next() []piece {
	r := w.rows[0]
	w.rows = w.rows[1:]
	if r.Kind == 4 {
		kid := w.rows[0]
		w.rows = w.rows[1:]
		return []piece{{text: form(r, kid)}}
	}
	if r.Kids == 0 {
		return []piece{{text: form(r, api.Row{})}}
	}
	var all []piece
	for i, part := range strings.Split(form(r, api.Row{}), "\x01") {
		if i > 0 && w.brackets(r, i-1, rank(w.rows[0])) {
			w.pairs++
			pair := w.pairs
			all = append(all, piece{"(", pair})
			all = append(all, w.next()...)
			all = append(all, piece{")", pair})
		} else if i > 0 {
			all = append(all, w.next()...)
		}
		all = append(all, piece{text: part})
	}
	return all
}

// pieces: the text of a tree's rows in pieces, and how many pairs of brackets stand about nodes.
func pieces(rows []api.Row) ([]piece, int) {
	w := teller{rows: rows, brackets: enclosed}
	return w.next(), w.pairs
}

// joined: the text of pieces, all but those of one pair.
func joined(all []piece, but int) string {
	var b strings.Builder
	for _, p := range all {
		if p.pair != but || but == 0 {
			b.WriteString(p.text)
		}
	}
	return b.String()
}

// shown: the text that the chapter gives a tree's rows.
func shown(rows []api.Row) string {
	all, _ := pieces(rows)
	return joined(all, 0)
}

var (
	numberForm = regexp.MustCompile(`\A(?:0[xX][0-9a-fA-F]+|(?:[0-9]+(?:\.[0-9]*)?|\.[0-9]+)(?:[eE][-+]?[0-9]+)?|(?i:inf|nan))\z`)
	spanForm   = regexp.MustCompile(`\A-?(?:[0-9]+y)?(?:[0-9]+w)?(?:[0-9]+d)?(?:[0-9]+h)?(?:[0-9]+m)?(?:[0-9]+s)?(?:[0-9]+ms)?\z`)
	labelForm  = regexp.MustCompile(`\A[A-Za-z_][A-Za-z0-9_]*\z`)
	metricForm = regexp.MustCompile(`\A[A-Za-z_:][A-Za-z0-9_:]*\z`)
	takenWords = regexp.MustCompile(`\A(?i:and|bool|by|group_left|group_right|ignoring|offset|on|or|unless|without|avg|bottomk|count|count_values|group|max|min|quantile|stddev|stdvar|sum|topk|inf|nan)\z`)
)

// soundWhen: may a selector or a subquery be moved so?
func soundWhen(w api.When) bool {
	_, badNumber := num.Read(w.At)
	_, badSpan := span.Parse(strings.TrimPrefix(w.Offset, "-"))
	at := slices.Contains([]string{"", "start", "end"}, w.At) || numberForm.MatchString(w.At) && badNumber == api.OK
	return at && (w.Offset == "" || spanForm.MatchString(w.Offset) && badSpan == api.OK)
}

func soundMatchers(ms []api.Matcher) bool {
	return !slices.ContainsFunc(ms, func(m api.Matcher) bool {
		return !labelForm.MatchString(m.Name) || m.Op < 1 || m.Op > 4 || !utf8.ValidString(m.Value)
	})
}

// soundSelector: may a tree hold it?
func soundSelector(s api.Selector) bool {
	name := s.Name == "" || metricForm.MatchString(s.Name) && !takenWords.MatchString(s.Name) && len(s.Name) <= api.MaxText
	return name && soundMatchers(s.Matchers) && soundWhen(s.When)
}

// shownSelector: what the chapter says that Selector answers.
func shownSelector(s api.Selector) string {
	if !soundSelector(s) {
		return ""
	}
	return shown([]api.Row{{Kind: 3, Text: s.Name, Matchers: s.Matchers, When: s.When}})
}

// shownMatchers: what the chapter says that Matchers answers.
func shownMatchers(ms []api.Matcher) string {
	if !soundMatchers(ms) {
		return ""
	}
	return braces(ms)
}

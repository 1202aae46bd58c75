package labels_test

import (
	"fmt"
	"regexp"
	"slices"
	"strings"
	"unicode/utf8"

	"weir/api"
	"weir/lex"
	"weir/rx"
	"weir/utf"
)

// The chapter's words, written down a second time and in another way, to hold the package against.

var (
	labelName  = regexp.MustCompile(`\A[a-zA-Z_][0-9a-zA-Z_]*\z`)
	metricName = regexp.MustCompile(`\A[a-zA-Z_:][0-9a-zA-Z_:]*\z`)
)

// set: labels from names and values in turns.
func set(texts ...string) []api.Label {
	var ls []api.Label
	for two := range slices.Chunk(texts, 2) {
		ls = append(ls, api.Label{Name: two[0], Value: two[1]})
	}
	return ls
}

// pairFault: what is wrong with pair number i of a list.
func pairFault(pairs []api.Label, i int) api.Errno {
	same := func(l api.Label) bool { return l.Name == pairs[i].Name }
	switch {
	case !labelName.MatchString(pairs[i].Name), slices.ContainsFunc(pairs[:i], same):
		return api.ErrLabels
	case !utf8.ValidString(pairs[i].Value):
		return api.ErrUTF
	}
	return 0
}

func wordsMake(pairs []api.Label) ([]api.Label, api.Errno) {
	byName := map[string]string{}
	for i := range pairs {
		if e := pairFault(pairs, i); e != 0 {
			return nil, e
		}
		byName[pairs[i].Name] = pairs[i].Value
	}
	var names []string
	for name, value := range byName {
		if value != "" {
			names = append(names, name)
		}
	}
	slices.Sort(names)
	var made []api.Label
	for _, name := range names {
		made = append(made, api.Label{Name: name, Value: byName[name]})
	}
	return made, 0
}

// wordsValid: a label set is what Make makes of itself.
func wordsValid(ls []api.Label) bool {
	made, e := wordsMake(ls)
	return e == 0 && slices.Equal(made, ls)
}

func wordsGet(ls []api.Label, name string) string {
	value := ""
	for i := len(ls) - 1; i >= 0; i-- {
		if ls[i].Name == name {
			value = ls[i].Value
		}
	}
	return value
}

func wordsWith(ls []api.Label, name, value string) []api.Label {
	var made []api.Label
	due := value != ""
	for _, l := range ls {
		if l.Name > name && due {
			made, due = append(made, api.Label{Name: name, Value: value}), false
		}
		if l.Name != name {
			made = append(made, l)
		}
	}
	if due {
		made = append(made, api.Label{Name: name, Value: value})
	}
	return made
}

func wordsKeep(ls []api.Label, names []string, without bool) []api.Label {
	if without {
		names = append(slices.Clone(names), "__name__")
	}
	return slices.DeleteFunc(slices.Clone(ls), func(l api.Label) bool { return slices.Contains(names, l.Name) == without })
}

// wordsCompare: the first of two lists' labels, then what is behind them.
func wordsCompare(a, b []api.Label) int {
	switch {
	case len(a) == 0 && len(b) == 0:
		return 0
	case len(a) == 0:
		return -1
	case len(b) == 0:
		return 1
	case a[0].Name < b[0].Name, a[0].Name == b[0].Name && a[0].Value < b[0].Value:
		return -1
	case a[0] == b[0]:
		return wordsCompare(a[1:], b[1:])
	}
	return 1
}

func wordsText(ls []api.Label) string {
	if !wordsValid(ls) {
		return ""
	}
	name, further := "", ls
	if given := wordsGet(ls, "__name__"); metricName.MatchString(given) {
		name, further = given, wordsWith(ls, "__name__", "")
	}
	if name != "" && len(further) == 0 {
		return name
	}
	inner := ""
	for _, l := range further {
		value, _ := utf.Quote(l.Value)
		inner += fmt.Sprintf(", %s=%s", l.Name, value)
	}
	return name + "{" + strings.TrimPrefix(inner, ", ") + "}"
}

// tokenForm: what Read's words tell apart, one letter a token.
func tokenForm(toks []api.Token) string {
	form := ""
	for _, tok := range toks {
		switch {
		case tok.Kind == api.TokName:
			form += "n"
		case tok.Kind == api.TokMetric:
			form += "m"
		case tok.Kind == api.TokNumber && strings.Contains("infnan", strings.ToLower(tok.Text)):
			form += "w"
		case tok.Kind == api.TokString:
			form += "s"
		case tok.Kind == api.TokOp && strings.Contains("{}=,", tok.Text):
			form += tok.Text
		default:
			form += "?"
		}
	}
	return form
}

var setForm = regexp.MustCompile(`\A(?:[nmw]|[nmw]?\{(?:n=s(?:,n=s)*,?)?\})\z`)

func wordsRead(text string) ([]api.Label, api.Errno) {
	toks, _, e := lex.Scan(text)
	if e != 0 {
		return nil, e
	}
	form := tokenForm(toks)
	if !setForm.MatchString(form) {
		return nil, api.ErrLabels
	}
	var pairs []api.Label
	if form[0] != '{' {
		pairs = set("__name__", toks[0].Text)
	}
	for i := range toks {
		if form[i] == '=' {
			value, _ := utf.Unquote(toks[i+1].Text)
			pairs = append(pairs, api.Label{Name: toks[i-1].Text, Value: value})
		}
	}
	return wordsMake(pairs)
}

func wordsVector(v []api.Elem) ([]api.Elem, api.Errno) {
	var made []api.Elem
	for _, x := range v {
		at := 0
		for at < len(made) && wordsCompare(made[at].Labels, x.Labels) < 0 {
			at++
		}
		twice := at < len(made) && wordsCompare(made[at].Labels, x.Labels) == 0
		if twice || !wordsValid(x.Labels) {
			return nil, api.ErrVector
		}
		made = slices.Insert(made, at, x)
	}
	return made, 0
}

// matcherFault: what is wrong with a matcher.
func matcherFault(m api.Matcher) api.Errno {
	switch {
	case !slices.Contains([]int{1, 2, 3, 4}, m.Op):
		return api.ErrKind
	case !labelName.MatchString(m.Name):
		return api.ErrLabels
	case !utf8.ValidString(m.Value):
		return api.ErrUTF
	case m.Op >= 3:
		_, e := rx.Compile(m.Value)
		return e
	}
	return 0
}

// wordsMatch: does a matcher without a fault hold of a value?
func wordsMatch(m api.Matcher, value string) bool {
	if m.Op <= 2 {
		return (m.Op == 1) == (value == m.Value)
	}
	re, _ := rx.Compile(m.Value)
	return (m.Op == 3) == re.Match(value)
}

func wordsHolds(ms []api.Matcher, ls []api.Label) bool {
	for _, m := range ms {
		if !wordsMatch(m, wordsGet(ls, m.Name)) {
			return false
		}
	}
	return true
}

func wordsCompile(ms []api.Matcher) (int, api.Errno) {
	for i, m := range ms {
		if e := matcherFault(m); e != 0 {
			return i, e
		}
	}
	return 0, 0
}

package lex

import (
	"strings"

	"weir/api"
	"weir/num"
	"weir/span"
	"weir/utf"
)

// An inside tells which brackets one stands inside of. They aren't counted: whether they match is the parser's business.
type inside struct {
	braces, squares bool
}

// behind: what one stands inside of behind a token.
func (in inside) behind(tok string) inside {
	switch tok {
	case "{":
		in.braces = true
	case "}":
		in.braces = false
	case "[":
		in.squares = true
	case "]":
		in.squares = false
	}
	return in
}

// colons: does a colon belong to names here? (Elsewhere it is an operator.)
func (in inside) colons() bool {
	return !in.braces && !in.squares
}

// token: the kind and the length of the token at the head of a text, which isn't empty.
func token(rest string, in inside) (kind, size int, e api.Errno) {
	c := rest[0]
	switch {
	case isFirst(c) || c == ':' && in.colons():
		kind, size = name(rest, in)
		return kind, size, api.OK
	case isDigit(c) || c == '.' && len(rest) > 1 && isDigit(rest[1]):
		return number(rest)
	case c == '"' || c == '\'' || c == '`':
		return literal(rest)
	}
	return operator(rest)
}

// name: the kind and the length of the name at the head of a text.
func name(rest string, in inside) (kind, size int) {
	for size < len(rest) && (isLater(rest[size]) || rest[size] == ':' && in.colons()) {
		size++
	}
	run := rest[:size]
	if strings.Contains(run, ":") {
		return api.TokMetric, size
	}
	if _, e := num.Read(run); e == api.OK && !in.braces { // inf and nan are the only names that are numbers too
		return api.TokNumber, size
	}
	return api.TokName, size
}

// number: the kind and the length of the number or the duration at the head of a text, whichever is the longer one.
func number(rest string) (kind, size int, e api.Errno) {
	kind, size = api.TokNumber, num.Prefix(rest)
	if d := span.Prefix(rest); d > size {
		kind, size = api.TokSpan, d
	}
	if runsOn(rest[size:]) || !readable(kind, rest[:size]) {
		return 0, 0, api.ErrLexeme
	}
	return kind, size, api.OK
}

// runsOn: can't what stands ahead of rest be a lexeme, since rest would go on with it?
func runsOn(rest string) bool {
	return rest != "" && (isLater(rest[0]) || rest[0] == '.')
}

// readable: does the layer that reads lexemes of this kind take this one?
func readable(kind int, lexeme string) bool {
	var e api.Errno
	if kind == api.TokSpan {
		_, e = span.Parse(lexeme)
	} else {
		_, e = num.Read(lexeme)
	}
	return e == api.OK
}

// literal: the kind and the length of the string at the head of a text.
func literal(rest string) (kind, size int, e api.Errno) {
	size, e = utf.Literal(rest, 0)
	if e == api.OK {
		_, e = utf.Unquote(rest[:size])
	}
	if e != api.OK {
		return 0, 0, api.ErrLiteral
	}
	return api.TokString, size, api.OK
}

// operator: the kind and the length of the longest operator at the head of a text.
func operator(rest string) (kind, size int, e api.Errno) {
	switch rest[:min(2, len(rest))] {
	case "==", "!=", "=~", "!~", "<=", ">=":
		return api.TokOp, 2, api.OK
	}
	if strings.IndexByte("(){}[],:=<>+-*/%^@", rest[0]) >= 0 {
		return api.TokOp, 1, api.OK
	}
	return 0, 0, api.ErrChar
}

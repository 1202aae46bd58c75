package parse

import (
	"weir/api"
	"weir/lex"
)

// A reader goes through a text's tokens from the left, each rule of the grammar by a function of its own. As it takes no token that can't stand where it stands, the first that it refuses is the first that is wrong.
type reader struct {
	toks []api.Token // those that are still to be read
	end  int         // the text's length, which is the place of a token that is missed at its end
	open int         // how many brackets aren't closed yet
	deep bool        // the tree is deeper than it may be: what is still read is only read for its faults
}

// begin: a reader at the beginning of a text.
func begin(text string) *reader {
	toks, place, e := lex.Scan(text)
	if e != api.OK {
		panic(fault{place, e})
	}
	return &reader{toks: toks, end: len(text)}
}

// whole: the tree of a part that has to be all of the text.
func (r *reader) whole(x part) api.Tree {
	if len(r.toks) > 0 {
		r.wrong()
	}
	if r.deep {
		panic(fault{0, api.ErrDepth})
	}
	return api.Tree{Root: x.node}
}

// next: the next token; at the end one of no kind.
func (r *reader) next() api.Token {
	if len(r.toks) == 0 {
		return api.Token{At: r.end}
	}
	return r.toks[0]
}

// take: the next token's text, and the reader goes on behind it.
func (r *reader) take() string {
	text := r.toks[0].Text
	r.toks = r.toks[1:]
	return text
}

// must: the next token's text, if it is of this kind.
func (r *reader) must(kind int) string {
	if r.next().Kind != kind {
		r.wrong()
	}
	return r.take()
}

// word: the keyword that the next token is; "", where it is none.
func (r *reader) word() string {
	if r.next().Kind != api.TokName {
		return ""
	}
	word, _ := lex.Word(r.next().Text)
	return word
}

// op: is the next token this operator?
func (r *reader) op(text string) bool {
	return isOp(r.next(), text)
}

// pass goes on behind this operator, if it is the next token.
func (r *reader) pass(text string) bool {
	if !r.op(text) {
		return false
	}
	r.take()
	return true
}

// opens goes on behind a bracket that has to stand here.
func (r *reader) opens(bracket string) {
	if !r.op(bracket) {
		r.wrong()
	}
	if r.open == api.MaxBrackets {
		r.refuse(api.ErrBrackets)
	}
	r.open++
	r.take()
}

// closes goes on behind the bracket that ends what the last one opened.
func (r *reader) closes(bracket string) {
	if !r.pass(bracket) {
		r.wrong()
	}
	r.open--
}

// wrong gives up, for the next token can't stand where it stands, or there is none and one has to.
func (r *reader) wrong() {
	if len(r.toks) == 0 {
		r.refuse(api.ErrEnd)
	}
	r.refuse(api.ErrSyntax)
}

// refuse gives up at the next token.
func (r *reader) refuse(e api.Errno) {
	panic(fault{r.next().At, e})
}

func isOp(tok api.Token, text string) bool {
	return tok.Kind == api.TokOp && tok.Text == text
}

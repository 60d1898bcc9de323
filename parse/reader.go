package parse

import (
	"antecedent/api"
	"antecedent/lex"
)

// fault is what a panic reports: an error in a text, and its byte offset.
type fault struct {
	at    int
	errno api.Errno
}

// reported returns the offset and the number of the error that a panic reported, or 0 and OK if there was none. Any other panic goes on.
func reported(problem any) (int, api.Errno) {
	f, ok := problem.(fault)
	if !ok && problem != nil {
		panic(problem)
	}
	return f.at, f.errno
}

// reader goes through the tokens of a text. Its methods panic with a fault where the text is wrong.
type reader struct {
	// tokens are those that have not been read yet.
	tokens []lex.Token
	// open is how many ( of a path are open.
	open int
}

// read returns what one of the reader's methods makes of the whole of text.
func read[T any](text string, what func(*reader) T) T {
	tokens, at, e := lex.Tokens(text)
	if e != api.OK {
		panic(fault{at, e})
	}
	// Two tokens without a kind stand at the end, since a literal is determined by two tokens, whatever they are.
	end := lex.Token{At: len(text)}
	r := &reader{tokens: append(tokens, end, end)}
	result := what(r)
	r.need(isEnd)
	return result
}

// fail reports an error at the next token.
func (r *reader) fail(e api.Errno) {
	panic(fault{r.tokens[0].At, e})
}

// next reports whether the next token has that text.
func (r *reader) next(text string) bool {
	return r.tokens[0].Text == text
}

// need takes the next token, which must be one that fits.
func (r *reader) need(fits func(lex.Token) bool) lex.Token {
	t := r.tokens[0]
	if !fits(t) {
		r.fail(api.ErrParse)
	}
	r.tokens = r.tokens[1:]
	return t
}

// want takes the next tokens, which must have these texts.
func (r *reader) want(texts ...string) {
	for _, s := range texts {
		r.need(func(t lex.Token) bool { return t.Text == s })
	}
}

// skip takes the next token if it has that text, and reports whether it has.
func (r *reader) skip(text string) bool {
	if !r.next(text) {
		return false
	}
	r.want(text)
	return true
}

func isEnd(t lex.Token) bool { return t.Kind == 0 }

// isTerm reports whether t is a term, with which also every literal begins.
func isTerm(t lex.Token) bool {
	return t.Kind == lex.Word || t.Kind == lex.Var || t.Kind == lex.Val
}

func isVariable(t lex.Token) bool { return t.Kind == lex.Var }

func isPredicate(t lex.Token) bool {
	return t.Kind == lex.Word && !lex.Key(t.Text)
}

func isComparison(t lex.Token) bool {
	switch t.Text {
	case "<", "<=", "=", "!=":
		return true
	}
	return false
}

func isOperation(t lex.Token) bool { return operation(t.Text) != "" }

package parse

import (
	"antecedent/api"
	"antecedent/value"
)

// program reads rules and the query.
func (r *reader) program() api.Program {
	var p api.Program
	for isPredicate(r.tokens[0]) {
		if len(p.Rules) == api.MaxRules {
			r.fail(api.ErrLong)
		}
		p.Rules = append(p.Rules, r.rule())
	}
	r.want("?-")
	p.Query = r.atom((*reader).term)
	r.want(".")
	return p
}

func (r *reader) rule() api.Rule {
	var x api.Rule
	x.Head = r.atom(func(r *reader) api.Term {
		t, fold := r.headTerm()
		// Only the last argument may be a fold, so what counts is the last one.
		x.Fold = fold
		return t
	})
	if r.skip(":-") {
		x.Body = list(r, api.MaxBody, (*reader).literal)
	}
	r.want(".")
	return x
}

// atom reads an atom, and each of its arguments with the given function.
func (r *reader) atom(argument func(*reader) api.Term) api.Atom {
	a := api.Atom{Pred: r.need(isPredicate).Text}
	if r.skip("(") {
		a.Args = list(r, api.MaxArity, argument)
		r.want(")")
	}
	return a
}

// list reads one or more items, separated by commas. Every item begins with a term, so a term behind as many items as may be begins one too many.
func list[T any](r *reader, most int, item func(*reader) T) []T {
	items := []T{item(r)}
	for r.skip(",") {
		if len(items) == most && isTerm(r.tokens[0]) {
			r.fail(api.ErrLong)
		}
		items = append(items, item(r))
	}
	return items
}

func (r *reader) term() api.Term {
	t := r.need(isTerm)
	if isVariable(t) {
		return api.Term{Var: t.Text}
	}
	// Words and values are the texts of values: the lexer refuses all others.
	v, _ := value.Read(t.Text)
	return api.Term{Val: v}
}

// headTerm reads an argument of a head: a term and 0, or the variable of a fold and its kind.
func (r *reader) headTerm() (api.Term, int) {
	fold := foldKind(r.tokens[0].Text)
	t := r.term()
	if fold == 0 || !r.skip("(") {
		return t, 0
	}
	t = api.Term{Var: r.need(isVariable).Text}
	r.want(")")
	if !r.next(")") {
		// A fold is the last argument.
		r.fail(api.ErrParse)
	}
	return t, fold
}

func (r *reader) literal() api.Literal {
	switch first, second := r.tokens[0], r.tokens[1]; {
	case isComparison(second):
		return r.compare()
	case isVariable(first) && second.Text == "is":
		return r.let()
	case first.Text == "not":
		r.want("not")
		return api.Literal{Kind: api.Fails, Atom: r.atom((*reader).term)}
	case first.Text == "walk":
		return r.walk()
	case isPredicate(first):
		return api.Literal{Kind: api.Holds, Atom: r.atom((*reader).term)}
	}
	// What is left is wrong. Any term may begin a comparison, so that is where the wrong token is found.
	return r.compare()
}

func (r *reader) compare() api.Literal {
	l := api.Literal{Kind: api.Compare, A: r.term()}
	l.Op = r.need(isComparison).Text
	l.B = r.term()
	return l
}

func (r *reader) let() api.Literal {
	l := api.Literal{Kind: api.Let, A: r.term()}
	r.want("is")
	l.B = r.term()
	l.Op = operation(r.need(isOperation).Text)
	l.C = r.term()
	return l
}

func (r *reader) walk() api.Literal {
	r.want("walk", "(")
	l := api.Literal{Kind: api.Walk, A: r.term()}
	r.want(",")
	l.Path = r.path()
	r.want(",")
	l.B = r.term()
	r.want(")")
	return l
}

// foldKind returns the kind of the fold with that word, or 0 if there is none.
func foldKind(word string) int {
	switch word {
	case "count":
		return api.Count
	case "sum":
		return api.Sum
	case "min":
		return api.Min
	case "max":
		return api.Max
	case "mean":
		return api.Mean
	}
	return 0
}

// operation returns the Op of the operation with that word, or the empty string if there is none.
func operation(word string) string {
	switch word {
	case "plus":
		return "+"
	case "minus":
		return "-"
	case "times":
		return "*"
	}
	return ""
}

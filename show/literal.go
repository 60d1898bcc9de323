package show

import (
	"antecedent/api"
	"antecedent/lex"
	"antecedent/value"
)

// literal returns the text of l, or the empty string if l is not valid.
func literal(l api.Literal) string {
	var text string
	// What a kind uses is taken out of rest, in which nothing may be left.
	rest := l
	switch l.Kind {
	case api.Holds:
		text = Atom(l.Atom)
		rest.Atom = api.Atom{}
	case api.Fails:
		text = whole("not ", Atom(l.Atom))
		rest.Atom = api.Atom{}
	case api.Compare:
		text = whole(term(l.A), " ", comparison(l.Op), " ", term(l.B))
		rest.A, rest.Op, rest.B = api.Term{}, "", api.Term{}
	case api.Let:
		text = whole(variable(l.A), " is ", term(l.B), " ", operation(l.Op), " ", term(l.C))
		rest.A, rest.B, rest.Op, rest.C = api.Term{}, api.Term{}, "", api.Term{}
	case api.Walk:
		text = whole("walk(", term(l.A), ", ", Path(l.Path), ", ", term(l.B), ")")
		rest.A, rest.Path, rest.B = api.Term{}, nil, api.Term{}
	}
	if !blank(rest) {
		return ""
	}
	return text
}

// blank reports whether all fields of l but its kind are zero.
func blank(l api.Literal) bool {
	var none api.Term
	return l.Atom.Pred == "" && len(l.Atom.Args) == 0 && l.Op == "" && l.A == none && l.B == none && l.C == none && len(l.Path) == 0
}

// head returns the text of an atom whose last argument is folded, unless fold is 0; or the empty string if one of the two is not valid.
func head(a api.Atom, fold int) string {
	left := len(a.Args)
	args, ok := list(a.Args, api.MaxArity, ", ", func(t api.Term) string {
		left--
		if left == 0 && fold != 0 {
			return whole(foldWord(fold), "(", variable(t), ")")
		}
		return term(t)
	})
	switch {
	case !ok || !predicate(a.Pred):
		return ""
	case args != "":
		return whole(a.Pred, "(", args, ")")
	case fold != 0:
		// There is nothing to fold.
		return ""
	}
	return a.Pred
}

// term returns the text of t, or the empty string if t is not valid.
func term(t api.Term) string {
	if t.Var == "" {
		return value.Text(t.Val)
	}
	return variable(t)
}

// variable returns the text of a term that must be a variable, or the empty string if it is not a valid one.
func variable(t api.Term) string {
	if !lex.Variable(t.Var) || t.Val != (api.Value{}) {
		return ""
	}
	return t.Var
}

// predicate reports whether s can be a predicate, or the label of a step.
func predicate(s string) bool { return value.Name(s) && !lex.Key(s) }

// comparison returns the mark of a Compare with that Op, or the empty string if there is none.
func comparison(op string) string {
	switch op {
	case "<", "<=", "=", "!=":
		return op
	}
	return ""
}

// operation returns the word of a Let with that Op, or the empty string if there is none.
func operation(op string) string {
	switch op {
	case "+":
		return "plus"
	case "-":
		return "minus"
	case "*":
		return "times"
	}
	return ""
}

// foldWord returns the word of a fold, or the empty string if there is none.
func foldWord(fold int) string {
	switch fold {
	case api.Count:
		return "count"
	case api.Sum:
		return "sum"
	case api.Min:
		return "min"
	case api.Max:
		return "max"
	case api.Mean:
		return "mean"
	}
	return ""
}

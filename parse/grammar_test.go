package parse

import (
	"slices"
	"strings"

	"antecedent/lex"
)

// The chapter's grammar, as a set of productions, and a recognizer by item sets (Earley's): it knows nothing of how the parser goes about it, and says which token is the first that cannot continue a text.

// production is a symbol that may be replaced by others. Symbols that no production replaces are classes of tokens.
type production struct {
	symbol string
	parts  []string
}

// grammar returns the productions. The classes of tokens are predicate, variable, value, and each keyword and mark.
func grammar() []production {
	var all []production
	add := func(symbol string, alternatives ...string) {
		for _, a := range alternatives {
			all = append(all, production{symbol, strings.Fields(a)})
		}
	}
	add("Program", "Rules ?- Atom .")
	add("Rules", "", "Rules Rule")
	add("Rule", "Head .", "Head :- Literals .")
	add("Head", "Atom", "predicate ( Fold )", "predicate ( Terms , Fold )")
	add("Fold", "FoldWord ( variable )")
	add("FoldWord", "count", "sum", "min", "max", "mean")
	add("Atom", "predicate", "predicate ( Terms )")
	add("Terms", "Term", "Terms , Term")
	add("Term", "variable", "value", "predicate")
	add("Term", keywords()...)
	add("Literals", "Literal", "Literals , Literal")
	add("Literal", "Term Comparison Term", "variable is Term Operation Term", "not Atom", "walk ( Term , Path , Term )", "Atom")
	add("Comparison", "<", "<=", "=", "!=")
	add("Operation", "plus", "minus", "times")
	add("Path", "Alternative", "Path | Alternative")
	add("Alternative", "Part", "Alternative / Part")
	add("Part", "predicate", "^ predicate", "( Path )", "Part *", "Part +", "Part ?")
	return all
}

func keywords() []string {
	return []string{"not", "is", "plus", "minus", "times", "walk", "count", "sum", "min", "max", "mean"}
}

func marks() []string {
	return []string{"(", ")", ",", ".", "<", "<=", "=", "!=", ":-", "?-", "/", "|", "*", "+", "?", "^"}
}

// item is a production of which some parts have been read, from the token with that number on.
type item struct {
	production, read, from int
}

// recognizer has the productions of each symbol.
type recognizer struct {
	productions []production
	of          map[string][]int
}

func newRecognizer() recognizer {
	g := recognizer{grammar(), map[string][]int{}}
	for i, p := range g.productions {
		g.of[p.symbol] = append(g.of[p.symbol], i)
	}
	return g
}

// wanted returns the symbol that x needs next, or the empty string if x is complete.
func (g recognizer) wanted(x item) string {
	if parts := g.productions[x.production].parts; x.read < len(parts) {
		return parts[x.read]
	}
	return ""
}

// close adds to the last set all that its items lead to without a further token.
func (g recognizer) close(sets [][]item) {
	last := len(sets) - 1
	add := func(x item) {
		if !slices.Contains(sets[last], x) {
			sets[last] = append(sets[last], x)
		}
	}
	for i := 0; i < len(sets[last]); i++ {
		x := sets[last][i]
		want := g.wanted(x)
		if want == "" {
			for _, y := range sets[x.from] {
				if g.wanted(y) == g.productions[x.production].symbol {
					add(item{y.production, y.read + 1, y.from})
				}
			}
		}
		for _, p := range g.of[want] {
			add(item{p, 0, last})
			// An empty production is complete at once, also for items that come to need it later.
			if len(g.productions[p].parts) == 0 {
				add(item{x.production, x.read + 1, x.from})
			}
		}
	}
}

// recognize returns how many of the classes can begin a text of the symbol start, and whether all of them are such a text.
func (g recognizer) recognize(start string, classes []string) (int, bool) {
	sets := [][]item{nil}
	for _, p := range g.of[start] {
		sets[0] = append(sets[0], item{p, 0, 0})
	}
	g.close(sets)
	for i, c := range classes {
		var next []item
		for _, x := range sets[i] {
			if g.wanted(x) == c {
				next = append(next, item{x.production, x.read + 1, x.from})
			}
		}
		if len(next) == 0 {
			return i, false
		}
		sets = append(sets, next)
		g.close(sets)
	}
	for _, x := range sets[len(classes)] {
		if g.wanted(x) == "" && x.from == 0 && g.productions[x.production].symbol == start {
			return len(classes), true
		}
	}
	return len(classes), false
}

// class returns the class of a token.
func class(t lex.Token) string {
	switch {
	case t.Kind == lex.Var:
		return "variable"
	case t.Kind == lex.Val:
		return "value"
	case t.Kind == lex.Word && !slices.Contains(keywords(), t.Text):
		return "predicate"
	}
	return t.Text
}

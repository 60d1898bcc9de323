package safe

import (
	"fmt"
	"maps"
	"slices"
	"strings"
	"testing"

	"antecedent/api"
)

// Rules, with what they are in order.
func ordered() map[string]string {
	return map[string]string{
		// Without a body, there are no variables in the head.
		"p":             "p",
		"p(a)":          "p(a)",
		"p(1, b, b, 1)": "p(1, b, b, 1)",
		// All variables of the head are bound, or there are none.
		"p :- q":                                 "p :- q",
		"p :- q(X)":                              "p :- q(X)",
		"p(X) :- q(X)":                           "p(X) :- q(X)",
		"p(X, X) :- q(X)":                        "p(X, X) :- q(X)",
		"p(Y, a, X) :- q(X, Z), r(Y)":            "p(Y, a, X) :- q(X, Z), r(Y)",
		"p(X) :- X = 3":                          "p(X) :- X = 3",
		"p(X) :- X is 1 plus 2":                  "p(X) :- X is 1 plus 2",
		"p(X, Y) :- walk(X, a, Y)":               "p(X, Y) :- walk(X, a, Y)",
		"p(X) :- walk(X, (a|^b)*/c?, b)":         "p(X) :- walk(X, (a|^b)*/c?, b)",
		"p(a) :- not q(b)":                       "p(a) :- not q(b)",
		"p(b) :- 1 < 2, not q":                   "p(b) :- 1 < 2, not q",
		"p(X) :- p(X)":                           "p(X) :- p(X)",
		"p(A, B, C, D) :- B = A, C = D, q(A, D)": "p(A, B, C, D) :- q(A, D), B = A, C = D",
		// Variables that are in the body only.
		"p(X) :- q(X, Y), not r(Z), s(Z)": "p(X) :- q(X, Y), s(Z), not r(Z)",
		// The order is that of Order.
		"p(X) :- not q(X), Y is X plus 1, r(X)":                                "p(X) :- r(X), not q(X), Y is X plus 1",
		"p(X) :- X < Y, Y = 3, X = Y":                                          "p(X) :- Y = 3, X = Y, X < Y",
		"p(X) :- Z is Y times 2, walk(X, a, Y), Z != X":                        "p(X) :- walk(X, a, Y), Z is Y times 2, Z != X",
		"p(X, Y) :- not q(X, Y), X != Y, r(Y), not t, r(X)":                    "p(X, Y) :- r(Y), not t, r(X), not q(X, Y), X != Y",
		"p(D) :- D is C minus 1, C is B times B, B = A, q(A), walk(D, a/b, E)": "p(D) :- q(A), B = A, C is B times B, D is C minus 1, walk(D, a/b, E)",
		// A folded head has the variable as its last argument.
		"p(count(X)) :- q(X)":                           "p(count(X)) :- q(X)",
		"p(X, sum(Y)) :- Y is X plus 1, q(X)":           "p(X, sum(Y)) :- q(X), Y is X plus 1",
		"p(X, Y, min(Y)) :- not r(Y), q(Y, X)":          "p(X, Y, min(Y)) :- q(Y, X), not r(Y)",
		"p(a, max(X)) :- X = 3":                         "p(a, max(X)) :- X = 3",
		"p(X, mean(Y)) :- X < Y, q(Y), walk(X, a+, c)":  "p(X, mean(Y)) :- q(Y), walk(X, a+, c), X < Y",
		"p(X, count(Y)) :- Y = X, X = Z, Z = 2, not  p": "p(X, count(Y)) :- Z = 2, X = Z, Y = X, not p",
	}
}

// Rules that are not safe.
func notSafe() []string {
	return []string{
		// Without a body, or with one that binds nothing of the head.
		"p(X)", "p(a, X)", "p(X, a)", "p(X, Y)", "p(count(X))", "p(X, sum(Y))", "p(a, mean(X))",
		"p(X) :- q", "p(X) :- q(x)", "p(X) :- q(Y)", "p(X) :- not q", "p(X) :- 1 < 2", "p(X) :- walk(a, b, c)",
		// Some of the head is bound.
		"p(X, Y) :- q(X)", "p(Y, X) :- q(X)", "p(X, X, Y) :- q(X)", "p(X, Y, Z) :- q(X), r(Z)", "p(X1) :- q(X)", "p(X) :- q(X1)",
		"p(X, Y) :- X = 2", "p(X, Y) :- X is 1 plus 2", "p(X, Y, Z) :- walk(X, y, Z)",
		"p(X, sum(Y)) :- q(X)", "p(X, sum(Y)) :- q(Y)", "p(count(X)) :- q(Y)", "p(X, max(X)) :- not q",
		// A literal is never ready.
		"p :- not q(X)", "p(a) :- not q(X)", "p(X) :- not q(X)", "p(X) :- X < 3", "p(X) :- 3 != X", "p(X) :- X = Y", "p(X) :- X = X", "p(X) :- X is Y plus 1", "p(X) :- X is X plus 1",
		"p(X) :- q(X), not r(Y)", "p(X) :- not r(Y), q(X)", "p(X) :- q(X), X < Y", "p(X) :- X < Y, q(X)", "p(X) :- q(X), Y = Z", "p(X) :- q(X), Y is Z plus X",
		"p(X) :- q(X), Y is Z plus X, Z is Y minus X", "p(count(X)) :- q(X), r(Y), not s(X, Y, Z)", "p(count(X)) :- not q(X)",
	}
}

func ruleOf(t *testing.T, text string) api.Rule {
	t.Helper()
	return program(t, text+". ?- p.").Rules[0]
}

func TestRule(t *testing.T) {
	for text, want := range ordered() {
		x := ruleOf(t, want)
		checkRule(t, ruleOf(t, text), &x)
		// What is in its order stays as it is.
		checkRule(t, x, &x)
	}
	for _, text := range notSafe() {
		checkRule(t, ruleOf(t, text), nil)
	}
}

// All fields are kept, whatever is in them, and nothing is added; but nothing that a kind does not use makes a rule unsafe, except by its variables.
func TestRulesThatAreNotValid(t *testing.T) {
	long := api.Value{Kind: -9, N: 7, S: "long"}
	last := api.Literal{
		Kind: 77, Atom: api.Atom{Pred: "P q", Args: []api.Term{named("X"), {Val: long}}}, Op: "?",
		A: named("y"), B: api.Term{Var: "Z", Val: long}, C: named("W"), Path: []api.Step{{Kind: 9, Label: "?"}, {}},
	}
	first := last
	first.Kind = api.Fails
	x := api.Rule{Head: api.Atom{Pred: "?", Args: []api.Term{named("W"), {Var: "y", Val: long}, named("Z"), {Val: long}, named("X")}}, Fold: -5, Body: []api.Literal{first, last}}
	want := x
	want.Body = []api.Literal{last, first}
	checkRule(t, x, &want)
	checkRule(t, want, &want)
	x.Body = []api.Literal{first}
	checkRule(t, x, nil)
	x.Head.Args = append(x.Head.Args, named("V"))
	x.Body = []api.Literal{first, last}
	checkRule(t, x, nil)
	for fold := range 8 {
		// A fold changes nothing in what the head needs.
		y := api.Rule{Head: api.Atom{Args: []api.Term{named("X")}}, Fold: fold}
		checkRule(t, y, nil)
		y.Body = []api.Literal{{A: named("X")}}
		checkRule(t, y, &y)
	}
	checkRule(t, api.Rule{}, &api.Rule{})
	checkRule(t, api.Rule{Body: []api.Literal{}}, &api.Rule{})
}

func TestProgram(t *testing.T) {
	// Rules that are safe, in many combinations, with queries that have nothing to do with it.
	queries := []string{"p", "p(X)", "q(a, Y, Y)", "r(Z, 1)", "p(W)"}
	var texts, wants []string
	all := ordered()
	for _, text := range slices.Sorted(maps.Keys(all)) {
		texts, wants = append(texts, text+". "), append(wants, all[text]+". ")
	}
	for n := range len(texts) + 1 {
		for i, query := range queries {
			query = "?- " + query + "."
			from := i % (n + 1)
			want := program(t, strings.Join(wants[from:n], "")+query)
			checkProgram(t, program(t, strings.Join(texts[from:n], "")+query), &want)
			checkProgram(t, want, &want)
		}
	}
	// One that is not safe, among others: the first, the last, or the only one.
	for _, text := range notSafe() {
		for _, where := range []string{"%s. ", "%s. p. ", "p(X) :- q(X). %s. ", "p(a). %s. p :- not q(X), r(X). ", "p. q(X) :- not r(X), p(X). r(c). s :- q(X). %[1]s. ", "%[1]s. %[1]s. "} {
			checkProgram(t, program(t, fmt.Sprintf(where, text)+"?- p(X)."), nil)
		}
	}
}

func TestProgramsWithoutRules(t *testing.T) {
	for _, text := range []string{"?- p.", "?- p(a).", "?- p(X).", "?- p(X, Y, X, 7)."} {
		p := program(t, text)
		checkProgram(t, p, &p)
		p.Rules = []api.Rule{}
		checkProgram(t, p, &p)
	}
	checkProgram(t, api.Program{}, &api.Program{})
}

// The variables of one rule, or of the query, bind nothing in another rule.
func TestVariablesOfOthers(t *testing.T) {
	for text, safe := range map[string]bool{
		"p(X) :- q(X). ?- p(X).":                         true,
		"p(X) :- q(X). ?- p(Y).":                         true,
		"p(X) :- q(X). r :- not p(X). ?- r.":             false,
		"r :- not p(X). p(X) :- q(X). ?- r.":             false,
		"p(X) :- q(X). p(X). ?- p(X).":                   false,
		"p(X). ?- p(X).":                                 false,
		"p(X) :- not q(X). ?- p(X).":                     false,
		"p(X) :- q(X). r(Y) :- q(Y). ?- s(Z).":           true,
		"p(X) :- q(X), X < Y. r(Y) :- q(Y). ?- p(Y).":    false,
		"p :- q(X). r(Y) :- q(Y), Z = Y, Z != X. ?- q.":  false,
		"p :- q(X). r(Y) :- q(Y), Z = Y, Z != Y. ?- q.":  true,
		"p(X) :- q(X). p(count(X)) :- q(Y). ?- p(X).":    false,
		"p(X) :- q(X). p(count(Y)) :- q(Y). ?- r(a, X).": true,
	} {
		p := program(t, text)
		if safe {
			checkProgram(t, p, &p)
		} else {
			checkProgram(t, p, nil)
		}
	}
}

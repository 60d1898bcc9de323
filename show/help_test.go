package show

import (
	"fmt"
	"slices"
	"strings"
	"testing"

	"antecedent/api"
	"antecedent/parse"
)

func named(s string) api.Term   { return api.Term{Var: s} }
func sym(s string) api.Term     { return api.Term{Val: api.Value{Kind: api.Sym, S: s}} }
func num(n int64) api.Term      { return api.Term{Val: api.Value{Kind: api.Int, N: n}} }
func floating(n int64) api.Term { return api.Term{Val: api.Value{Kind: api.Flo, N: n}} }

func atom(pred string, args ...api.Term) api.Atom { return api.Atom{Pred: pred, Args: args} }

func rule(head api.Atom, body ...api.Literal) api.Rule { return api.Rule{Head: head, Body: body} }

// body is a rule with nothing but a body: p :- the literals.
func body(l ...api.Literal) api.Rule { return rule(atom("p"), l...) }

func folded(fold int, args ...api.Term) api.Rule {
	return api.Rule{Head: atom("p", args...), Fold: fold}
}

// steps returns the steps that the bytes of s stand for: a small letter for a label along which one goes, a capital one for a label (the small letter) against which, and the marks.
func steps(s string) []api.Step {
	var l []api.Step
	for _, c := range s {
		// The marks stand at the numbers of their kinds.
		switch kind := strings.IndexRune("   /|*+?", c); {
		case kind > 0:
			l = append(l, api.Step{Kind: kind})
		case 'A' <= c && c <= 'Z':
			l = append(l, api.Step{Kind: api.Back, Label: strings.ToLower(string(c))})
		default:
			l = append(l, api.Step{Kind: api.Along, Label: string(c)})
		}
	}
	return l
}

// repeated returns n copies of x.
func repeated[T any](n int, x T) []T { return slices.Repeat([]T{x}, n) }

// told returns what x holds, whether its empty slices are nil or not. It tells all valid programs apart, since there is no space or brace in their names.
func told(x any) string { return fmt.Sprintf("%+v", x) }

// checkText checks the text that print makes of x, which must stay as it is.
func checkText[T any](t *testing.T, print func(T) string, x T, want string) {
	t.Helper()
	before := told(x)
	if s := print(x); s != want {
		t.Errorf("the text of %.300s is %q, not %q", before, s, want)
	}
	if told(x) != before {
		t.Errorf("%.300s has become %.300s", before, told(x))
	}
}

// checkRight checks what right reports of x, which must stay as it is, and what is parsed from the text of x if there is one.
func checkRight[T any](t *testing.T, right func(T) bool, parsed func(string) (T, int, api.Errno), x T, text string) {
	t.Helper()
	before := told(x)
	if ok := right(x); ok != (text != "") || told(x) != before {
		t.Errorf("%.300s is valid: %t; then it is %.300s", before, ok, told(x))
	}
	if text == "" {
		return
	}
	if y, at, e := parsed(text); told(y) != before || e != api.OK {
		t.Errorf("%.300q is parsed as %.300s (error %d at %d), not %.300s", text, told(y), e, at, before)
	}
}

// checkProgram checks the text of a program, which is empty if the program is not valid.
func checkProgram(t *testing.T, p api.Program, want string) {
	t.Helper()
	checkText(t, Text, p, want)
	checkRight(t, Right, parse.Parse, p, want)
}

// checkRule checks the text of a rule, by itself and in programs.
func checkRule(t *testing.T, x api.Rule, want string) {
	t.Helper()
	checkText(t, Rule, x, want)
	other := rule(atom("r", num(3)))
	alone, among := "", ""
	if want != "" {
		alone, among = want+"\n?- q.\n", "r(3).\n"+want+"\nr(3).\n?- q.\n"
	}
	checkProgram(t, api.Program{Rules: []api.Rule{x}, Query: atom("q")}, alone)
	checkProgram(t, api.Program{Rules: []api.Rule{other, x, other}, Query: atom("q")}, among)
}

// checkLiteral checks the text of a literal, alone and among others.
func checkLiteral(t *testing.T, l api.Literal, want string) {
	t.Helper()
	other := api.Literal{Kind: api.Fails, Atom: atom("r", named("X"))}
	alone, last, around := "", "", ""
	if want != "" {
		alone, last, around = "p :- "+want+".", "p :- not r(X), "+want+".", "p :- "+want+", not r(X), "+want+"."
	}
	checkRule(t, body(l), alone)
	checkRule(t, body(other, l), last)
	checkRule(t, body(l, other, l), around)
}

// checkAtom checks the text of an atom, by itself, as the query, as a head, and in literals.
func checkAtom(t *testing.T, a api.Atom, want string) {
	t.Helper()
	checkText(t, Atom, a, want)
	query, fact, fails := "", "", ""
	if want != "" {
		query, fact, fails = "?- "+want+".\n", want+".", "not "+want
	}
	checkProgram(t, api.Program{Query: a}, query)
	checkRule(t, rule(a), fact)
	checkLiteral(t, api.Literal{Kind: api.Holds, Atom: a}, want)
	checkLiteral(t, api.Literal{Kind: api.Fails, Atom: a}, fails)
}

// checkPath checks the text of a path, by itself and in a walk.
func checkPath(t *testing.T, l []api.Step, want string) {
	t.Helper()
	checkText(t, Path, l, want)
	checkRight(t, RightPath, parse.Path, l, want)
	walk := ""
	if want != "" {
		walk = "walk(X, " + want + ", Y)"
	}
	checkLiteral(t, api.Literal{Kind: api.Walk, A: named("X"), Path: l, B: named("Y")}, walk)
}

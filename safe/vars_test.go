package safe

import (
	"fmt"
	"math"
	"slices"
	"testing"

	"antecedent/api"
)

// kinds are those of literals, and numbers that are no kind.
func kinds() []int {
	return []int{api.Holds, api.Fails, api.Compare, api.Let, api.Walk, 0, 6, -1, 99, math.MinInt, math.MaxInt}
}

func TestVars(t *testing.T) {
	for text, want := range map[string]string{
		"q":                         "",
		"q(a, 7, not)":              "",
		"q(X)":                      "X",
		"q(Y, X)":                   "X Y",
		"q(X, X, X)":                "X",
		"q(Z, a, X, Y, X, 1, Z)":    "X Y Z",
		"not q":                     "",
		"not q(-3)":                 "",
		"not q(B, A, B)":            "A B",
		"X < Y":                     "X Y",
		"Y != X":                    "X Y",
		"X = X":                     "X",
		"X <= 7":                    "X",
		"b = X":                     "X",
		"1 = 2":                     "",
		"X is Y plus Z":             "X Y Z",
		"Z is Y minus X":            "X Y Z",
		"X is X times X":            "X",
		"X is 2 plus Y":             "X Y",
		"Y is X minus 2":            "X Y",
		"X is 1 plus 2":             "X",
		"walk(X, a/^b*, Y)":         "X Y",
		"walk(Y, a, X)":             "X Y",
		"walk(X, a|b, X)":           "X",
		"walk(x, a, Y)":             "Y",
		"walk(X, a, y)":             "X",
		"walk(x, a, y)":             "",
		"q(B, AB, A, Aa, A1, A_a)":  "A A1 AB A_a Aa B",
		"q(X10, X9, X1, X, Xx, X_)": "X X1 X10 X9 X_ Xx",
	} {
		checkBinds(t, body(t, text)[0], nil, want)
	}
}

// Whatever the kind is, the variables are those of the Atom, A, B and C; not what else is in a literal.
func TestVarsOfAnyKind(t *testing.T) {
	none := api.Term{}
	for _, kind := range kinds() {
		for _, c := range []struct {
			args    []api.Term
			a, b, c api.Term
			want    string
		}{
			{nil, none, none, none, ""},
			{[]api.Term{}, number(1), number(2), number(3), ""},
			{[]api.Term{named("X")}, none, none, none, "X"},
			{nil, named("X"), none, none, "X"},
			{nil, none, named("X"), none, "X"},
			{nil, none, none, named("X"), "X"},
			{[]api.Term{named("D"), number(1), named("E")}, named("C"), named("B"), named("A"), "A B C D E"},
			{[]api.Term{named("A"), named("B")}, named("C"), named("D"), named("E"), "A B C D E"},
			{[]api.Term{named("X")}, named("X"), named("X"), named("X"), "X"},
			{[]api.Term{named("X"), named("Y")}, named("Y"), named("X"), named("Z"), "X Y Z"},
			{[]api.Term{none, none}, named("Y"), none, named("Y"), "Y"},
			{slices.Repeat([]api.Term{named("Y"), named("X")}, 50), none, none, none, "X Y"},
		} {
			l := api.Literal{Kind: kind, Atom: api.Atom{Pred: "P", Args: c.args}, Op: "Op", A: c.a, B: c.b, C: c.c, Path: []api.Step{{Kind: api.Along, Label: "L"}}}
			checkBinds(t, l, nil, c.want)
			checkBinds(t, l, []string{}, c.want)
		}
	}
	// A term with a name is a variable, whatever the name and the value are.
	l := api.Literal{Kind: api.Holds, Atom: api.Atom{Args: []api.Term{{Var: "x", Val: api.Value{Kind: api.Sym, S: "S"}}, named("\xff"), named("é"), named("Z"), named("\x00"), {Val: api.Value{Kind: api.Sym, S: "S"}}}}}
	checkBinds(t, l, nil, "\x00 Z x é \xff")
}

func TestBinds(t *testing.T) {
	for _, c := range []struct{ text, bound, want string }{
		{"q", "", ""},
		{"q", "X", "X"},
		{"q", "Z X Y", "X Y Z"},
		{"q", "X X", "X"},
		{"q", "Y X Y X X", "X Y"},
		{"q(X)", "X", "X"},
		{"q(X)", "Y", "X Y"},
		{"q(X)", "A", "A X"},
		{"q(X)", "Y X A Y", "A X Y"},
		{"q(Y, B)", "C X A", "A B C X Y"},
		{"not q(Y, B)", "C X A", "A B C X Y"},
		{"X < Y", "Z Y", "X Y Z"},
		{"X = Y", "", "X Y"},
		{"X is Y plus Z", "W Z", "W X Y Z"},
		{"X is Y plus Z", "Z Y X", "X Y Z"},
		{"X is X times 2", "A", "A X"},
		{"walk(Y, a, X)", "Z A Z", "A X Y Z"},
		{"walk(y, a, x)", "Z A Z", "A Z"},
		{"1 < 2", "Bb B Ba A", "A B Ba Bb"},
	} {
		checkBinds(t, body(t, c.text)[0], words(c.bound), c.want)
	}
}

// There may be many variables, which have little to do with their number's order.
func TestManyVars(t *testing.T) {
	const n = 20000
	l := api.Literal{Kind: api.Fails}
	var bound, want []string
	for i := range n {
		name := fmt.Sprintf("X%d", i)
		want = append(want, name)
		if i%3 > 0 {
			l.Atom.Args = append(l.Atom.Args, named(name))
		}
		if i%3 < 2 {
			bound = append(bound, name)
		}
	}
	slices.Sort(want)
	slices.Reverse(bound)
	if got := Binds(l, bound); !slices.Equal(got, want) {
		t.Errorf("%d variables of %d, from %q on", len(got), n, got[:3])
	}
}

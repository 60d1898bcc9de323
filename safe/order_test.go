package safe

import (
	"fmt"
	"math/rand"
	"slices"
	"strings"
	"testing"

	"antecedent/api"
)

// everySet are the sets of the variables X, Y and Z; none of them is a dot.
const everySet = ". X Y Z XY XZ YZ XYZ"

// A literal alone is ready or not, depending on what is bound.
func TestReady(t *testing.T) {
	// These are the sets with which it is ready.
	const (
		never = ""
		x     = "X XY XZ XYZ"
		y     = "Y XY YZ XYZ"
		xy    = "XY XYZ"
		yz    = "YZ XYZ"
		xOrY  = "X Y XY XZ YZ XYZ"
	)
	for with, texts := range map[string][]string{
		everySet: {
			"q", "q(a)", "q(X)", "q(X, Y, Z, W)", "walk(X, a, Y)", "walk(x, a, W)", "walk(W, a+, W)", "walk(x, a/^b, y)", "not q", "not q(a, 1)",
			"X = 3", "a = X", "W = 1", "a = b", "1 < 2", "a <= b", "a != a", "X is 1 times 2", "W is 1 plus 2",
		},
		x: {
			"not q(X)", "not q(X, X)", "not q(1, X, a)", "X < X", "X <= X", "X != X", "X = X", "X < 3", "X <= 3", "X != 3", "3 < X", "3 <= X", "3 != X",
			"W = X", "X = W", "X is X times X", "X is X plus 1", "X is 1 minus X", "W is X plus 1", "W is 1 times X", "W is X minus X",
		},
		y:    {"X is Y times Y", "X is Y plus 1", "X is 1 minus Y"},
		xy:   {"not q(Y, X)", "not q(X, a, Y, X)", "X < Y", "X <= Y", "X != Y", "Y < X", "X is X plus Y", "X is Y minus X", "W is X times Y", "Z is Y plus X"},
		yz:   {"X is Y plus Z", "X is Z times Y", "W is Y minus Z", "Y is Z plus Y"},
		xOrY: {"X = Y", "Y = X"},
		"XYZ": {
			"not q(X, Y, Z)", "not q(Z, X, Y, X)",
		},
		never: {"not q(W)", "not q(X, Y, Z, W)", "W < V", "X < W", "W != X", "W <= 1", "W = V", "W = W", "W is W plus 1", "W is X plus V", "X is V times Y", "X is 2 minus W"},
	} {
		for _, text := range texts {
			for _, bound := range words(everySet) {
				want := "unsafe"
				if slices.Contains(words(with), bound) {
					want = "0"
				}
				l, names := body(t, text), strings.Split(strings.Trim(bound, "."), "")
				checkOrder(t, l, names, want, strings.Join(Binds(l[0], names), " "))
			}
		}
	}
}

// What counts, of the terms of a literal that is not valid, depends on its kind alone.
func TestReadyOfAnyKind(t *testing.T) {
	for _, kind := range kinds() {
		for _, op := range []string{"", "<", "<=", "=", "!=", "==", "= ", "+", "-", "*"} {
			for set := range 16 {
				var bound []string
				for i, name := range words("A B C D") {
					if set>>i&1 == 1 {
						bound = append(bound, name)
					}
				}
				a, b, c, all := set&1 > 0, set&2 > 0, set&4 > 0, set == 15
				ready := true
				switch kind {
				case api.Fails:
					ready = all
				case api.Compare:
					ready = a && b || op == "=" && (a || b)
				case api.Let:
					ready = b && c
				}
				l := api.Literal{Kind: kind, Atom: api.Atom{Args: []api.Term{named("D")}}, Op: op, A: named("A"), B: named("B"), C: named("C")}
				if ready {
					checkOrder(t, []api.Literal{l}, bound, "0", "A B C D")
				} else {
					checkOrder(t, []api.Literal{l}, bound, "unsafe", "")
				}
			}
		}
	}
}

func TestOrder(t *testing.T) {
	for _, c := range []struct{ text, bound, want, after string }{
		// Without literals.
		{"", "", "", ""},
		{"", "X", "", "X"},
		{"", "Z X Y X", "", "X Y Z"},
		// All are ready at once, so they stay in order.
		{"q", "", "0", ""},
		{"q, r, s", "", "0 1 2", ""},
		{"q(Y), r(X), s(Z)", "", "0 1 2", "X Y Z"},
		{"q(Y), r(X), s(Z)", "W X", "0 1 2", "W X Y Z"},
		{"not q, 1 < 2, r(X), a = b, walk(X, a, Y), Z is 1 plus 2", "", "0 1 2 3 4 5", "X Y Z"},
		{"q(X), q(X), q(X)", "", "0 1 2", "X"},
		{"not q(X), not r(X)", "X", "0 1", "X"},
		// The first one that is ready stands last, or behind others.
		{"not q(X), Y is X plus 1, r(X)", "", "2 0 1", "X Y"},
		{"X < Y, Y = 3, X = Y", "", "1 2 0", "X Y"},
		{"Z is Y times 2, walk(X, a, Y), Z != X", "", "1 0 2", "X Y Z"},
		{"1 < 2, not q", "", "0 1", ""},
		{"not q(X), r(X)", "", "1 0", "X"},
		{"X < 3, X = 2", "", "1 0", "X"},
		{"not q(X), not r(X), not s(X), t(X)", "", "3 0 1 2", "X"},
		{"Y is X plus 1, walk(X, a, Z)", "", "1 0", "X Y Z"},
		{"W < Z, Z = Y, Y = X, X = 1, W = 2", "", "3 2 1 4 0", "W X Y Z"},
		{"D is C plus 1, C is B plus 1, B is A plus 1, A is 1 plus 1", "", "3 2 1 0", "A B C D"},
		{"D is C plus 1, C is B plus 1, B is A plus 1, q(A)", "", "3 2 1 0", "A B C D"},
		// After each one, it is the first one of all again that is ready.
		{"not q(Y), not q(X), r(X), r(Y), s", "", "2 1 3 0 4", "X Y"},
		{"not q(Y), r(X), s(Y), not q(X)", "", "1 2 0 3", "X Y"},
		{"X < Y, r(Y), s(Z), r(X), not q(Z)", "", "1 2 3 0 4", "X Y Z"},
		{"not q(X, Y), Z is X plus Y, r(X), not q(X), s(Z), t(Y)", "", "2 3 4 5 0 1", "X Y Z"},
		{"not q(Z), Z is X plus Y, X is Y plus 1, Y = 1, r(Z)", "", "3 2 1 0 4", "X Y Z"},
		{"X = Y, Y = Z, Z = W, r(Y)", "", "3 0 1 2", "W X Y Z"},
		{"X = Y, Y = Z, Z = W, r(W)", "", "3 2 1 0", "W X Y Z"},
		{"X = Y, Y = Z, Z = W, r(X)", "", "3 0 1 2", "W X Y Z"},
		// What is bound before makes literals ready, and does not have to occur in them.
		{"not q(X), Y is X plus 1, r(X)", "X", "0 1 2", "X Y"},
		{"not q(X), Y is X plus 1, r(X)", "Y", "2 0 1", "X Y"},
		{"not q(X), Y is X plus 1, r(X)", "Z X Z A", "0 1 2", "A X Y Z"},
		{"X < Y, Y = 3, X = Y", "X", "1 0 2", "X Y"},
		{"X < Y, Y = 3, X = Y", "Y", "1 2 0", "X Y"},
		{"X < Y, Y = 3, X = Y", "Y X", "0 1 2", "X Y"},
		{"X < Y", "Y X A Y", "0", "A X Y"},
		{"X = Y, not q(X), not q(Y)", "Y", "0 1 2", "X Y"},
		{"X is X plus 1, not q(X)", "X", "0 1", "X"},
		// A Let may have an A that is bound before, or nothing but values.
		{"X is Y plus 1, r(X), r(Y)", "", "1 2 0", "X Y"},
		{"X is Y plus 1, r(X), r(Y)", "Y", "0 1 2", "X Y"},
		{"X is 1 plus 2, X is 2 plus 1", "", "0 1", "X"},
		{"not q(X), X is 1 plus 2", "", "1 0", "X"},
		{"X is X plus 1, r(X)", "", "1 0", "X"},
		{"X is Y plus X, Y = X, r(Y)", "", "2 1 0", "X Y"},
		// Variables that are no others' beginnings are others.
		{"not q(X1), r(X), r(X1)", "", "1 2 0", "X X1"},
		{"not q(X), r(X1), r(X)", "", "1 2 0", "X X1"},
		{"not q(X_, Xx), r(Xx), r(X_)", "X", "1 2 0", "X X_ Xx"},
		// As many as there may be.
		{"not a(L), not a(K), not a(J), not a(I), not a(H), not a(G), not a(F), not a(E), not a(D), not a(C), a(A, B, C, D, E, F, G), a(H, I, J, K, L)", "", "10 5 6 7 8 9 11 0 1 2 3 4", "A B C D E F G H I J K L"},
	} {
		checkOrder(t, body(t, c.text), words(c.bound), c.want, c.after)
	}
}

func TestUnsafeBodies(t *testing.T) {
	for text, bounds := range map[string][]string{
		"not q(X)":                            {"", "Y", "Z Y", "x"},
		"not q(X, Y)":                         {"", "X", "Y", "Y Z Y"},
		"X < 3":                               {"", "Y"},
		"3 != X":                              {"", "Y"},
		"X < Y":                               {"", "X", "Y", "X X", "Z Y"},
		"X <= Y":                              {"", "X", "Y"},
		"X != Y":                              {"", "X", "Y"},
		"X = Y":                               {"", "Z"},
		"X = X":                               {"", "Y"},
		"X is Y plus 1":                       {"", "X", "X Z"},
		"X is 1 plus Y":                       {"", "X"},
		"X is Y plus Z":                       {"", "X", "Y", "Z", "X Y", "X Z"},
		"X is X plus 1":                       {"", "Y"},
		"X is Y plus X":                       {"", "X", "Y"},
		"X is Y plus 1, Y is X plus 1":        {"", "Z"},
		"X = Y, Y = Z, Z = X":                 {"", "W"},
		"X = Y, Y < Z, Z != X":                {"", "X", "Y"},
		"q(X), not q(Y)":                      {"", "X"},
		"q(X), r(Y), not q(X, Y, Z)":          {"", "X Y"},
		"not q(Y), q(X)":                      {"", "X"},
		"q, r, 1 < 2, not s, X < 2":           {"", "Y"},
		"X < 2, q, r, 1 < 2, not s":           {"", "Y"},
		"walk(X, a, Y), walk(Y, b, Z), W < X": {"", "X Y Z"},
		"not q(X1), r(X)":                     {"", "X"},
		"not q(X), r(X1)":                     {"", "X1"},
		"q(x), not q(X)":                      {"", "x"},
		"Y = Z, X is 1 plus 2":                {"", "X"},
	} {
		for _, bound := range bounds {
			checkOrder(t, body(t, text), words(bound), "unsafe", "")
		}
	}
}

// What is passed may be nil or empty, which is the same.
func TestNothing(t *testing.T) {
	for _, l := range [][]api.Literal{nil, {}} {
		for _, bound := range [][]string{nil, {}} {
			if order, after, e := Order(l, bound); len(order) != 0 || len(after) != 0 || e != api.OK {
				t.Errorf("Order of nothing: %v, %q, error %d", order, after, e)
			}
		}
	}
	checkOrder(t, []api.Literal{{}}, nil, "0", "")
	checkOrder(t, []api.Literal{{}, {Kind: api.Fails}, {Kind: api.Compare}, {Kind: api.Let}, {Kind: api.Walk}}, nil, "0 1 2 3 4", "")
}

// Bodies may be far longer than valid ones.
func TestLongBodies(t *testing.T) {
	const n = 2000
	name := func(i int) api.Term { return named(fmt.Sprintf("X%05d", i)) }
	var l []api.Literal
	var forward, backward []int
	for i := range n {
		l = append(l, api.Literal{Kind: api.Let, A: name(i + 1), B: name(i), Op: "+", C: number(1)})
		forward, backward = append(forward, i), append(backward, n-1-i)
	}
	if order, after, e := Order(l, []string{name(0).Var}); !slices.Equal(order, forward) || len(after) != n+1 || !slices.IsSorted(after) || e != api.OK {
		t.Errorf("%d literals in their order: %d selected, %d bound, error %d", n, len(order), len(after), e)
	}
	if order, after, e := Order(l, nil); len(order) != 0 || len(after) != 0 || e != api.ErrUnsafe {
		t.Errorf("%d literals that need one more: %d selected, %d bound, error %d", n, len(order), len(after), e)
	}
	slices.Reverse(l)
	if order, after, e := Order(l, []string{name(0).Var}); !slices.Equal(order, backward) || len(after) != n+1 || !slices.IsSorted(after) || e != api.OK {
		t.Errorf("%d literals against their order: %d selected, %d bound, error %d", n, len(order), len(after), e)
	}
	// Each one becomes ready by another one, wherever that stands.
	order := rand.New(rand.NewSource(1)).Perm(n)
	for i, at := range order {
		l[at] = api.Literal{Kind: api.Compare, A: name(i), Op: "=", B: name(i + 1)}
	}
	got, _, e := Order(l, []string{name(0).Var})
	if !slices.Equal(got, order) || e != api.OK {
		t.Errorf("%d literals in a random order: %d selected, error %d", n, len(got), e)
	}
}

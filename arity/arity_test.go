package arity

import (
	"fmt"
	"slices"
	"strings"
	"testing"

	"antecedent/api"
)

func TestExamples(t *testing.T) {
	check(t, "p(X) :- q(X, Y), Y < 3. q(a, 2). ?- p(X).", "p(s) q(si)")
	check(t, "e(a, 1). p(X) :- e(X, Y), Y < Z, n(Z). m(mean(N)) :- n(N). c(X, count(Y)) :- walk(X, k, Y). l(W) :- W is N times M, n(N), n(M). ?- p(Q).",
		"c(?i) e(si) k(??) l(i) m(f) n(i) p(s)")
}

func TestProgramsWithoutRules(t *testing.T) {
	check(t, "?- q.", "q")
	check(t, "?- q(X).", "q(?)")
	check(t, "?- q(X, 3, X, a, #0000000000000000, Y).", "q(?i?sf?)")
	for _, rules := range [][]api.Rule{nil, {}} {
		l, e := Kinds(api.Program{Rules: rules, Query: api.Atom{Pred: "q", Args: []api.Term{}}})
		if s := told(l, e); s != "q" {
			t.Errorf("Kinds: %s", s)
		}
	}
}

// occurrences are texts with a predicate r, with n arguments, in one place each, and with no value.
func occurrences(n int) map[string]string {
	args := strings.Repeat("X, ", n)
	atom, all := "r", map[string]string{}
	if n > 0 {
		atom = "r(" + args[:len(args)-2] + ")"
		all["a folded head"] = "r(" + args[:len(args)-3] + "max(X)). "
		all["a folded head with a body"] = "r(" + args[:len(args)-3] + "sum(X)) :- s(X). "
	}
	all["a fact"] = atom + ". "
	all["a head"] = atom + " :- s(X). "
	all["a literal that holds"] = "q :- " + atom + ". "
	all["a literal that fails"] = "q :- s(X), not " + atom + ". "
	all["the query"] = "?- " + atom + "."
	if n == 2 {
		all["a label along"] = "q :- walk(X, r, X). "
		all["a label back"] = "q :- walk(X, ^r, X). "
		all["a label among others"] = "q :- walk(X, (a|^b)*/r?/^c, Y). "
	}
	return all
}

// withQuery returns a text with a query if it has none.
func withQuery(text string) string {
	if strings.Contains(text, "?-") {
		return text
	}
	return text + "?- o."
}

func TestPredicatesInOnePlace(t *testing.T) {
	for n := range api.MaxArity + 1 {
		for where, text := range occurrences(n) {
			p := program(t, withQuery(text))
			checkProgram(t, p, defined(p))
			l, e := Kinds(p)
			if x, ok := Find(l, "r"); e != api.OK || !ok || !slices.Equal(x.Kinds, make([]int, n)) {
				t.Errorf("r with %d arguments in %s only: %v, %t, error %d", n, where, x, ok, e)
			}
		}
	}
}

// Each two places in which a predicate may stand, with all pairs of sizes.
func TestNumbersOfArguments(t *testing.T) {
	for n := range api.MaxArity + 1 {
		for m := range api.MaxArity + 1 {
			want := api.OK
			if n != m {
				want = api.ErrArity
			}
			for first, a := range occurrences(n) {
				for second, b := range occurrences(m) {
					if second != "the query" {
						checkErrno(t, program(t, withQuery(b+a)), want, fmt.Sprintf("%d in %s, %d in %s", n, first, m, second))
					}
				}
			}
		}
	}
}

// checkErrno checks the error of Kinds for the rules and literals of a program in several orders.
func checkErrno(t *testing.T, p api.Program, want api.Errno, what string) {
	t.Helper()
	for _, x := range reordered(p) {
		if l, e := Kinds(x); e != want || (len(l) == 0) != (e != api.OK) {
			t.Errorf("%s: %v, error %d, not %d", what, l, e, want)
		}
	}
}

func TestOtherNumbersOfArgumentsInOneRule(t *testing.T) {
	for text, want := range map[string]string{
		"r :- r(X). ?- q.":                                                                 "arity",
		"r(X) :- r. ?- q.":                                                                 "arity",
		"r(X, Y) :- r(X). ?- q.":                                                           "arity",
		"r(count(X)) :- r(X, Y). ?- q.":                                                    "arity",
		"r(X, count(Y)) :- r(X). ?- q.":                                                    "arity",
		"q :- r(X), not r(X, Y). ?- q.":                                                    "arity",
		"q :- r(X), r(X, Y), r(X). ?- q.":                                                  "arity",
		"q :- r(X), walk(X, r, Y). ?- q.":                                                  "arity",
		"q :- not r(X, Y, Z), walk(X, a/^r*, Y). ?- q.":                                    "arity",
		"r :- walk(X, r, X). ?- q.":                                                        "arity",
		"q(X) :- walk(X, a|q+, Y). ?- a(X, Y).":                                            "arity",
		"q :- walk(X, a/b/^c?, Y). ?- c(X).":                                               "arity",
		"q :- walk(X, a/b/^c?, Y). ?- b(X, Y, Z).":                                         "arity",
		"q :- walk(X, a/b/^c?, Y). ?- a.":                                                  "arity",
		"q :- walk(X, a/b/^c?, Y), walk(Y, q, X). ?- d.":                                   "arity",
		"r :- r, not r. ?- r.":                                                             "r",
		"r(X) :- r(Y), not r(Z). ?- r(W).":                                                 "r(?)",
		"r(X, Y) :- r(Y, X), walk(Y, r/^r, X). ?- r(W, W).":                                "r(??)",
		"r(X, sum(Y)) :- r(Y, X), not r(X, X). ?- r(W, 7).":                                "r(ii)",
		"r(count(X)) :- s(X). r(X) :- not r(X). ?- r(min).":                                "type",
		"r(max(X)) :- s(X), not r(X). r(min). ?- s(mean).":                                 "r(s) s(s)",
		"walks(X) :- walk(X, walks1, Y). walks1(X, not) :- walks(X), X = is. ?- walks(X).": "walks(s) walks1(ss)",
	} {
		check(t, text, want)
	}
}

// The number of arguments comes first, whatever stands first.
func TestBothErrors(t *testing.T) {
	types := []string{"p(a). p(1).", "o :- a < 1.", "o :- X is a plus 1.", "o :- X is 1 plus #0000000000000000.", "p(a). o(sum(X)) :- p(X).", "p(a). o :- walk(1, e, X), p(X).", "o(count(X)) :- p(X). o(b)."}
	sizes := []string{"r. r(a).", "r(X) :- r(X, X).", "s :- not r, r(X).", "s :- r, walk(X, r, Y).", "s :- walk(X, ^r, Y), not r(X).", "r(count(X)) :- r."}
	for _, a := range types {
		check(t, a+"?- q.", "type")
		for _, b := range sizes {
			check(t, b+"?- q.", "arity")
			check(t, a+b+"?- q.", "arity")
			check(t, b+a+"?- q.", "arity")
			check(t, a+"r(X, Y, Z). ?- r.", "arity")
		}
	}
	for _, text := range []string{
		"p(a). p(1, 2). ?- q.", "p(1) :- p(a), p(a, 1). ?- q.", "p(X, X) :- 1 < a, p. ?- q.", "p(X) :- X is a plus b, walk(X, p, 1). ?- q.",
		"p(a). ?- p(1, 2).", "p(1). p(a). ?- p.", "p(mean(X)) :- X = a, p(1, 1). ?- p(b).",
	} {
		check(t, text, "arity")
	}
}

func TestVariablesOfOtherRules(t *testing.T) {
	for text, want := range map[string]string{
		"p(X) :- s(X). q(X) :- r(X). s(a). r(1). ?- q(X).":                      "p(s) q(i) r(i) s(s)",
		"p(X) :- X < 1. q(X) :- X < a. r(X) :- X = #0000000000000000. ?- s(X).": "p(i) q(s) r(f) s(?)",
		"p(X). p(1). q(X). q(a). ?- s(X).":                                      "p(i) q(s) s(?)",
		"p(a). s(X) :- p(X). ?- q(X).":                                          "p(s) q(?) s(s)",
		"p(X) :- X = 1. ?- q(X, a, X).":                                         "p(i) q(?s?)",
		"?- q(X, X).":                                                           "q(??)",
		"q(a, Y). ?- q(X, X).":                                                  "q(ss)",
		"q(a, Y). ?- q(X, Y).":                                                  "q(s?)",
		"q(a, Y). q(X, 1). ?- q(X, X).":                                         "type",
		"q(a, Y). q(X, 1). ?- q(X, Y).":                                         "q(si)",
		"p(X) :- X < 1, q(X). q(X) :- X < a. ?- s(X).":                          "type",
		"p(X, Y) :- r(X, Y). r(1, a). q(X, Y) :- r(Y, X). ?- q(X, Y).":          "p(is) q(si) r(is)",
		"p(X, Y) :- r(X, Y). r(1, a). r(Y, X) :- p(X, Y). ?- q(X, Y).":          "type",
		"p(X) :- q(X), r(X1). q(a). r(1). ?- p(Y).":                             "p(s) q(s) r(i)",
		"p(X) :- s(Y), q(X). p(Y) :- s(X), q(Y). s(1). q(a). ?- p(Z).":          "p(s) q(s) s(i)",
		"p(X, count(X)) :- q(X). q(a). r(X) :- X < 2. ?- p(Y, X).":              "p(si) q(s) r(i)",
	} {
		check(t, text, want)
	}
}

// A kind is passed on over several places and rules, in all directions.
func TestKindsArePassedOn(t *testing.T) {
	for text, want := range map[string]string{
		"a(X) :- b(X). b(X) :- c(X). c(X) :- d(X). d(k). ?- a(X).":            "a(s) b(s) c(s) d(s)",
		"a(7). b(X) :- a(X). c(X) :- not b(X), d(X). ?- c(X).":                "a(i) b(i) c(i) d(i)",
		"b(X) :- a(X), c(X), d(Y), Y <= X. ?- d(#0000000000000000).":          "a(f) b(f) c(f) d(f)",
		"a(X, Y) :- b(Y, X). b(X, Y) :- c(Y, X). c(7, k). ?- a(X, Y).":        "a(is) b(si) c(is)",
		"a(X, Y) :- b(Y, Z), c(Z, X), X = W, W != V, d(V). d(7). ?- a(X, k).": "a(is) b(s?) c(?i) d(i)",
		"a(X) :- a(X). ?- a(X).":                                                                       "a(?)",
		"a(X) :- b(X). b(X) :- a(X). ?- a(X).":                                                         "a(?) b(?)",
		"a(X) :- b(X). b(X) :- c(X). c(X) :- a(X). ?- b(7).":                                           "a(i) b(i) c(i)",
		"a(X, Y) :- a(Y, X). a(k, X). ?- b.":                                                           "a(ss) b",
		"a(X, Y, Z) :- a(Y, Z, X). a(X, 7, Y). ?- b.":                                                  "a(iii) b",
		"a(X, Y, Z) :- a(Y, X, Z). a(X, 7, Y). ?- a(X, Y, k).":                                         "a(iis)",
		"a(X, Y, Z) :- a(Y, X, Z). a(X, 7, Y). ?- a(k, Y, Z).":                                         "type",
		"a(X) :- b(X). b(X) :- c(X). c(X) :- a(X). a(k). ?- c(7).":                                     "type",
		"a(X, Y) :- b(X), b(Y). c(X) :- a(X, Y). d(X) :- a(Y, X). c(k). d(7). ?- q.":                   "type",
		"a(X, Y) :- b(X), d(Y). c(X) :- a(X, Y). d(X) :- a(Y, X). c(k). d(7). ?- q.":                   "a(si) b(s) c(s) d(i) q",
		"a(X) :- X = Y, Y = Z, Z = W, W = X, Z = k. ?- a(V).":                                          "a(s)",
		"a(X) :- X = Y, Y < Z, Z <= W, V != W, V = k, X = 7. ?- a(V).":                                 "type",
		"a(X, sum(Y)) :- b(X, Y). b(X, max(Y)) :- c(X, Y). c(X, min(Y)) :- d(X, Y). ?- d(k, 7).":       "a(si) b(si) c(si) d(si)",
		"a(X, sum(Y)) :- b(X, Y). b(X, max(Y)) :- c(X, Y). c(X, min(Y)) :- d(X, Y). ?- d(7, k).":       "type",
		"a(X) :- walk(X, b/^c, Y). d(X) :- b(X, Y). e(Y) :- c(X, Y). f(X) :- walk(X, c+, Y). ?- f(k).": "a(s) b(ss) c(ss) d(s) e(s) f(s)",
		"a(X) :- X is Y plus Z, b(Y). c(X) :- b(Y), Z is Y minus X. d(X) :- c(X), not b(X). ?- d(7).":  "a(i) b(i) c(i) d(i)",
		"a(X) :- b(X). a(X) :- c(X). d(X) :- b(X). e(X) :- c(X). d(7). ?- e(X).":                       "a(i) b(i) c(i) d(i) e(i)",
		"a(X) :- b(X). a(X) :- c(X). d(X) :- b(X). e(X) :- c(X). d(7). ?- e(k).":                       "type",
	} {
		check(t, text, want)
	}
	// Over as many rules as may be, in a circle, with the value at any place of it.
	for _, n := range []int{2, 50, api.MaxRules - 1} {
		for _, at := range []int{0, n / 2, n - 1} {
			for _, value := range values() {
				checkCircle(t, n, at, value)
			}
		}
	}
}

// checkCircle checks a circle of n rules, with a fact for the predicate with one of its numbers, if there is a value.
func checkCircle(t *testing.T, n, at int, value string) {
	t.Helper()
	var text strings.Builder
	for i := range n {
		fmt.Fprintf(&text, "p%03d(X, Y) :- p%03d(Y, X). ", i, (i+1)%n)
	}
	if value != "" {
		fmt.Fprintf(&text, "p%03d(%s, Y). ", at, value)
	}
	l, e := Kinds(program(t, text.String()+"?- q(X)."))
	if e != api.OK || len(l) != n+1 {
		t.Fatalf("a circle of %d rules: %d predicates, error %d", n, len(l), e)
	}
	kind := slices.Index(values(), value)
	for i, x := range l[:n] {
		want := []int{kind, 0}
		if i%2 != at%2 {
			slices.Reverse(want)
		}
		if n%2 == 1 {
			// Each column is passed on to the other one, too.
			want = []int{kind, kind}
		}
		if !slices.Equal(x.Kinds, want) {
			t.Fatalf("a circle of %d rules with %q at %d: %v, not %v", n, value, at, x, want)
		}
	}
	if value == "" {
		return
	}
	// A further value stands in the second column of the first predicate.
	for i, other := range values()[1:] {
		want := api.ErrType
		if i+1 == kind || n%2 == 0 && at%2 == 0 {
			want = api.OK
		}
		l, e := Kinds(program(t, fmt.Sprintf("%s?- p000(X, %s).", text.String(), other)))
		if e != want || (e != api.OK) != (len(l) == 0) {
			t.Errorf("a circle of %d rules with %q at %d, %q at 0: %v, error %d", n, value, at, other, l, e)
		}
	}
}

func TestColumnsThatNothingDetermines(t *testing.T) {
	for text, want := range map[string]string{
		"p(X, 7, Y) :- q(Y, Z). ?- q(X, Y).":                                           "p(?i?) q(??)",
		"p(X) :- X < Y, Y <= Z, Z != X. ?- p(X).":                                      "p(?)",
		"p(X) :- X is Y plus Z. ?- p(X).":                                              "p(?)",
		"p(X, sum(Y)) :- q(X, Y). ?- p(X, Y).":                                         "p(??) q(??)",
		"p(X, mean(Y)) :- q(X, Y). ?- p(X, Y).":                                        "p(?f) q(??)",
		"p(count(Y)) :- q(Y). ?- r.":                                                   "p(i) q(?) r",
		"p(X) :- walk(X, a|^b, Y), c(Y). ?- r.":                                        "a(??) b(??) c(?) p(?) r",
		"p :- q(X), 1 < 2, b != a, 7 = 7. ?- q(Y).":                                    "p q(?)",
		"p(X) :- q(X), Y is 1 plus 2. ?- q(Y).":                                        "p(?) q(?)",
		"p(X) :- q(Y), not r(Z). q(a). r(1). ?- p(W).":                                 "p(?) q(s) r(i)",
		"p(X, Y, Z, W, X, Y, Z, W) :- q(Z, Y). q(7, k). ?- p(X, X, X, X, Y, Y, Y, Y).": "type",
		"p(X, Y, Z, W, X, Y, Z, W) :- q(Z, Y). q(7, k). ?- p(X, Y, Z, W, V, U, T, S).": "p(?si??si?) q(is)",
	} {
		check(t, text, want)
	}
}

func TestOrderOfNames(t *testing.T) {
	check(t, "pa. p_. p0. p. pz. p9. p__. p_a. p_0. paa. p0a. p00. o. q. ?- pp.", "o p p0 p00 p0a p9 p_ p_0 p__ p_a pa paa pp pz q")
	check(t, "b(X) :- a(X), c(X), walk(X, bb/^ab, X), not ba(X). ?- aa.", "a(?) aa ab(??) b(?) ba(?) bb(??) c(?)")
	check(t, "z :- y, x. x :- z, y. y :- x, z, w, w. z. z. ?- z.", "w x y z")
	check(t, "p :- walk(X, b/(a|^b)/a/c*/^c, Y), b(X, Y), not a(Y, X). b(Z, Z). ?- c(X, Y).", "a(??) b(??) c(??) p")
	long := strings.Repeat("z", api.MaxName)
	check(t, long+" :- "+long[1:]+", "+long[1:]+"a. "+long[2:]+". ?- "+long[1:]+"_.", long[2:]+" "+long[1:]+" "+long[1:]+"_ "+long[1:]+"a "+long)
}

func TestFind(t *testing.T) {
	list := []Pred{{"b", []int{1, 0, 3}}, {"a", nil}, {"c", []int{2}}, {"b", []int{3}}, {"a", []int{1}}, {"", []int{9, -1}}, {"d", []int{}}}
	before := fmt.Sprint(list)
	for name, at := range map[string]int{"a": 1, "b": 0, "c": 2, "d": 6, "": 5} {
		x, ok := Find(list, name)
		if want := list[at]; !ok || x.Name != want.Name || !slices.Equal(x.Kinds, want.Kinds) {
			t.Errorf("Find of %q is %v, %t", name, x, ok)
		}
	}
	for _, name := range []string{"e", "B", "bb", "a ", " a", "ab", "b\x00"} {
		checkNotFound(t, list, name)
	}
	for _, name := range []string{"", "a", "b"} {
		for _, l := range [][]Pred{nil, {}, list[:0], list[2:3], {{"aa", nil}, {"B", []int{1}}}} {
			checkNotFound(t, l, name)
		}
	}
	if x, ok := Find(list[1:], "b"); !ok || !slices.Equal(x.Kinds, []int{3}) {
		t.Errorf("Find in the rest is %v, %t", x, ok)
	}
	if s := fmt.Sprint(list); s != before {
		t.Errorf("%s has become %s", before, s)
	}
}

func checkNotFound(t *testing.T, l []Pred, name string) {
	t.Helper()
	if x, ok := Find(l, name); ok || x.Name != "" || len(x.Kinds) != 0 {
		t.Errorf("Find of %q in %v is %v, %t", name, l, x, ok)
	}
}

func TestFindOfKinds(t *testing.T) {
	l, _ := Kinds(program(t, "p(a, X) :- q(X, 1), not r. ?- s(X)."))
	for name, want := range map[string][]int{"p": {api.Sym, 0}, "q": {0, api.Int}, "r": nil, "s": {0}} {
		if x, ok := Find(l, name); !ok || x.Name != name || !slices.Equal(x.Kinds, want) {
			t.Errorf("Find of %s is %v, %t", name, x, ok)
		}
	}
	checkNotFound(t, l, "t")
}

// spoil writes into all memory of a list: its items, and what may lie behind them.
func spoil(l []int) {
	for i := range l[:cap(l)] {
		l[:cap(l)][i] = 77
	}
}

func TestResultsShareNoMemory(t *testing.T) {
	p := program(t, "p(a, X) :- q(X, 1), not r. e(X) :- p(X, Y), walk(Y, k, Z). ?- s(X).")
	other, _ := Kinds(p)
	want := fmt.Sprint(other)
	for i := range other {
		l, _ := Kinds(p)
		spoil(l[i].Kinds)
		l[i].Kinds = other[i].Kinds
		if s := fmt.Sprint(l); s != want || fmt.Sprint(other) != want {
			t.Errorf("changing the kinds of %s makes the list %s", other[i].Name, s)
		}
		x, _ := Find(other, other[i].Name)
		spoil(x.Kinds)
		y, _ := Find(other, other[i].Name)
		if fmt.Sprint(other) != want || fmt.Sprint(y) != fmt.Sprint(other[i]) {
			t.Errorf("changing what Find returns makes the list %v", other)
		}
	}
}

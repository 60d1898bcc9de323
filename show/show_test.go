package show

import (
	"math"
	"slices"
	"strings"
	"testing"

	"antecedent/api"
	"antecedent/parse"
)

func keywords() []string {
	return []string{"not", "is", "plus", "minus", "times", "walk", "count", "sum", "min", "max", "mean"}
}

// foldWords are the words of the folds, each at the number of its kind.
func foldWords() []string { return []string{"", "count", "sum", "min", "max", "mean"} }

// otherKinds are numbers that are no kind of anything (0 is none of literals and steps).
func otherKinds() []int { return []int{-1, -2, 8, 9, 256, 1 << 32, math.MaxInt, math.MinInt} }

func TestExamples(t *testing.T) {
	x, y := named("X"), named("Y")
	checkProgram(t, api.Program{
		Rules: []api.Rule{
			{Head: atom("p", x, y), Fold: api.Count, Body: []api.Literal{{Kind: api.Walk, A: x, Path: steps("aB*/"), B: y}}},
			rule(atom("e", sym("a"), num(-3))),
			rule(atom("q"), api.Literal{Kind: api.Fails, Atom: atom("p", x, num(1))}, api.Literal{Kind: api.Let, A: y, B: x, Op: "*", C: floating(-1)}),
		},
		Query: atom("p", x, num(3)),
	}, "p(X, count(Y)) :- walk(X, a/^b*, Y).\ne(a, -3).\nq :- not p(X, 1), Y is X times #ffffffffffffffff.\n?- p(X, 3).\n")
	checkProgram(t, api.Program{Query: atom("q")}, "?- q.\n")
	checkPath(t, steps("ab/c|"), "a/b|c")
	checkPath(t, steps("abc|/"), "a/(b|c)")
}

// place is a rule with a term in it, and its text with that term where an @ stands.
type place struct {
	put  func(api.Term) api.Rule
	text string
}

// anyPlaces are where any term may stand.
func anyPlaces() []place {
	x := named("X")
	places := []place{
		{func(u api.Term) api.Rule { return rule(atom("p", u)) }, "p(@)."},
		{func(u api.Term) api.Rule { return rule(atom("p", u, x, x)) }, "p(@, X, X)."},
		{func(u api.Term) api.Rule { return rule(atom("p", x, u, x)) }, "p(X, @, X)."},
		{func(u api.Term) api.Rule { return rule(atom("p", x, x, u)) }, "p(X, X, @)."},
		{func(u api.Term) api.Rule { return folded(api.Sum, u, x) }, "p(@, sum(X))."},
		{func(u api.Term) api.Rule { return body(api.Literal{Kind: api.Holds, Atom: atom("r", x, u)}) }, "p :- r(X, @)."},
		{func(u api.Term) api.Rule { return body(api.Literal{Kind: api.Fails, Atom: atom("r", u, x)}) }, "p :- not r(@, X)."},
		{func(u api.Term) api.Rule { return body(api.Literal{Kind: api.Let, A: x, B: u, Op: "+", C: x}) }, "p :- X is @ plus X."},
		{func(u api.Term) api.Rule { return body(api.Literal{Kind: api.Let, A: x, B: x, Op: "-", C: u}) }, "p :- X is X minus @."},
		{func(u api.Term) api.Rule { return body(api.Literal{Kind: api.Walk, A: u, Path: steps("a"), B: x}) }, "p :- walk(@, a, X)."},
		{func(u api.Term) api.Rule { return body(api.Literal{Kind: api.Walk, A: x, Path: steps("a?"), B: u}) }, "p :- walk(X, a?, @)."},
	}
	for _, op := range []string{"<", "<=", "=", "!="} {
		places = append(places,
			place{func(u api.Term) api.Rule { return body(api.Literal{Kind: api.Compare, A: u, Op: op, B: x}) }, "p :- @ " + op + " X."},
			place{func(u api.Term) api.Rule { return body(api.Literal{Kind: api.Compare, A: x, Op: op, B: u}) }, "p :- X " + op + " @."})
	}
	return places
}

// variablePlaces are where a variable must stand.
func variablePlaces() []place {
	x := named("X")
	places := []place{
		{func(u api.Term) api.Rule { return body(api.Literal{Kind: api.Let, A: u, B: x, Op: "+", C: x}) }, "p :- @ is X plus X."},
		{func(u api.Term) api.Rule {
			return body(api.Literal{Kind: api.Let, A: u, B: num(-1), Op: "*", C: num(-1)})
		}, "p :- @ is -1 times -1."},
	}
	for kind, word := range foldWords() {
		if kind > 0 {
			places = append(places,
				place{func(u api.Term) api.Rule { return folded(kind, u) }, "p(" + word + "(@))."},
				place{func(u api.Term) api.Rule { return folded(kind, x, sym("a"), u) }, "p(X, a, " + word + "(@))."})
		}
	}
	return places
}

// checkTerm checks a term in all places; its text is empty if it may not stand there.
func checkTerm(t *testing.T, u api.Term, places []place, want string) {
	t.Helper()
	for _, p := range places {
		text := ""
		if want != "" {
			text = strings.ReplaceAll(p.text, "@", want)
		}
		checkRule(t, p.put(u), text)
	}
}

func TestTerms(t *testing.T) {
	checkTerms := func(terms map[api.Term]string, inVariablePlaces bool) {
		for u, want := range terms {
			checkTerm(t, u, anyPlaces(), want)
			checkAtom(t, atom("p", u), "p("+want+")")
			checkAtom(t, atom("p", sym("a"), u), "p(a, "+want+")")
			if !inVariablePlaces {
				want = ""
			}
			checkTerm(t, u, variablePlaces(), want)
		}
	}
	variables, values := map[api.Term]string{}, map[api.Term]string{
		num(0): "0", num(7): "7", num(-1): "-1", num(math.MaxInt64): "9223372036854775807", num(math.MinInt64): "-9223372036854775808",
		floating(0): "#0000000000000000", floating(-1): "#ffffffffffffffff", floating(0x3ff0000000000000): "#3ff0000000000000", floating(0x7ff8000000000001): "#7ff8000000000001", floating(0x7ff0000000000000): "#7ff0000000000000",
	}
	for _, s := range []string{"X", "Z", "Xy_1", "NOT", "Not", "A1", "B_", strings.Repeat("Q", api.MaxName), "Z" + strings.Repeat("_", api.MaxName-1)} {
		variables[named(s)] = s
	}
	// A keyword may be a symbol.
	for _, s := range append(keywords(), "a", "b_2", "nots", strings.Repeat("z", api.MaxName)) {
		values[sym(s)] = s
	}
	checkTerms(variables, true)
	checkTerms(values, false)
}

// invalidTerms are both a variable and a value, neither of them, not a valid value, or a text that is no variable.
func invalidTerms() []api.Term {
	terms := []api.Term{
		{}, {Val: api.Value{N: 1}}, {Val: api.Value{S: "a"}}, {Val: api.Value{Kind: -1}}, {Val: api.Value{Kind: 4}}, {Val: api.Value{Kind: 4, S: "a"}},
		{Val: api.Value{Kind: api.Int, N: 1, S: "a"}}, {Val: api.Value{Kind: api.Flo, S: "a"}}, {Val: api.Value{Kind: api.Sym, N: 1, S: "a"}},
		floating(math.MaxInt64), floating(math.MinInt64), floating(0x7ff8000000000000), floating(0x7ff0000000000001),
		sym(""), sym("A"), sym("X1"), sym("_a"), sym("1"), sym("a-b"), sym("a b"), sym("a."), sym("é"), sym(strings.Repeat("z", api.MaxName+1)),
	}
	for _, v := range []api.Value{num(0).Val, num(3).Val, floating(0).Val, sym("a").Val, {Kind: 9}, {N: 1}, {S: "a"}, {S: "X"}} {
		terms = append(terms, api.Term{Var: "X", Val: v}, api.Term{Var: "x", Val: v})
	}
	for _, s := range append(keywords(), "x", "x1", "_X", "_", "1X", "3", "X-Y", "X Y", " X", "X ", "X\n", "X.", "É", "XÉ", "X\x00", "(X)", "X,Y", strings.Repeat("Q", api.MaxName+1), strings.Repeat("Q", 100000)) {
		terms = append(terms, named(s))
	}
	return terms
}

func TestInvalidTerms(t *testing.T) {
	for _, u := range invalidTerms() {
		checkTerm(t, u, anyPlaces(), "")
		checkTerm(t, u, variablePlaces(), "")
		for _, a := range []api.Atom{atom("p", u), atom("p", u, u), atom("p", u, named("X")), atom("p", num(3), named("X"), u)} {
			checkAtom(t, a, "")
		}
	}
}

func TestAtoms(t *testing.T) {
	for _, s := range []string{"p", "z", "p_2", "a1", "nots", "is_", "counts", "walk1", strings.Repeat("z", api.MaxName), "a" + strings.Repeat("_", api.MaxName-1)} {
		checkAtom(t, atom(s), s)
		checkAtom(t, atom(s, named("X")), s+"(X)")
		checkAtom(t, atom(s, sym(s), named("X")), s+"("+s+", X)")
	}
	invalid := append(keywords(), "", "P", "X", "_p", "1p", "3", "p-q", "p q", " p", "p ", "p.", "p\n", "p(", "p(X)", "é", "p\x00", strings.Repeat("z", api.MaxName+1), strings.Repeat("z", 100000))
	for _, s := range invalid {
		checkAtom(t, atom(s), "")
		checkAtom(t, atom(s, named("X")), "")
		checkAtom(t, atom(s, sym("a"), named("X")), "")
		for kind := range foldWords() {
			checkRule(t, api.Rule{Head: atom(s, named("X")), Fold: kind}, "")
		}
	}
	checkAtom(t, api.Atom{}, "")
	checkAtom(t, api.Atom{Pred: "p", Args: []api.Term{}}, "p")
	checkAtom(t, api.Atom{Pred: "p", Args: make([]api.Term, 0, 9)}, "p")
}

func TestAsManyArgumentsAsMayBe(t *testing.T) {
	for s, u := range map[string]api.Term{"X": named("X"), "-3": num(-3), "count": sym("count")} {
		for n := 1; n <= api.MaxArity; n++ {
			checkAtom(t, atom("p", repeated(n, u)...), "p("+strings.Repeat(s+", ", n-1)+s+")")
		}
		for _, n := range []int{api.MaxArity + 1, api.MaxArity + 2, 1000, 1 << 20} {
			args := repeated(n, u)
			if Atom(atom("p", args...)) != "" || Right(api.Program{Query: atom("p", args...)}) {
				t.Errorf("an atom with %d arguments is %q", n, Atom(atom("p", args...)))
			}
		}
		checkAtom(t, atom("p", repeated(api.MaxArity+1, u)...), "")
	}
	checkAtom(t, atom("p", make([]api.Term, api.MaxArity+1)...), "")
	// A fold counts as one.
	x := named("X")
	for kind, word := range foldWords() {
		if kind > 0 {
			checkRule(t, folded(kind, repeated(api.MaxArity, x)...), "p("+strings.Repeat("X, ", api.MaxArity-1)+word+"(X)).")
			checkRule(t, folded(kind, repeated(api.MaxArity+1, x)...), "")
		}
	}
}

func TestFolds(t *testing.T) {
	x, y := named("X"), named("Y")
	r := api.Literal{Kind: api.Holds, Atom: atom("r", x, y)}
	for kind, word := range foldWords() {
		if kind == 0 {
			continue
		}
		checkRule(t, folded(kind, x), "p("+word+"(X)).")
		checkRule(t, folded(kind, y, x), "p(Y, "+word+"(X)).")
		checkRule(t, folded(kind, x, x, x), "p(X, X, "+word+"(X)).")
		checkRule(t, folded(kind, sym(word), num(-1), y), "p("+word+", -1, "+word+"(Y)).")
		checkRule(t, api.Rule{Head: atom("p", y, x), Fold: kind, Body: []api.Literal{r}}, "p(Y, "+word+"(X)) :- r(X, Y).")
		// Without a fold, its word may be an argument.
		checkRule(t, folded(0, sym(word)), "p("+word+").")
		checkRule(t, folded(0, x, sym(word)), "p(X, "+word+").")
		// There must be a variable that is folded.
		checkRule(t, folded(kind), "")
		checkRule(t, api.Rule{Head: api.Atom{Pred: "p", Args: []api.Term{}}, Fold: kind, Body: []api.Literal{r}}, "")
		for _, u := range []api.Term{num(0), num(3), floating(0), sym("a"), sym(word), {Var: "X", Val: num(3).Val}, {}, named("x"), named(word)} {
			checkRule(t, folded(kind, u), "")
			checkRule(t, folded(kind, x, u), "")
			checkRule(t, folded(kind, x, y, u), "")
		}
		if s := Atom(folded(kind, y, x).Head); s != "p(Y, X)" {
			t.Errorf("the head alone is %q", s)
		}
	}
	for _, kind := range append(otherKinds(), api.Mean+1, api.Mean+2) {
		checkRule(t, folded(kind), "")
		checkRule(t, folded(kind, x), "")
		checkRule(t, folded(kind, y, x), "")
		checkRule(t, folded(kind, x, num(3)), "")
		checkRule(t, api.Rule{Head: atom("p", x), Fold: kind, Body: []api.Literal{r}}, "")
	}
	// Each rule has a fold of its own.
	checkProgram(t, api.Program{Rules: []api.Rule{folded(api.Min, x), folded(0, x), folded(api.Mean, y, x), folded(0, y, x)}, Query: atom("q", x)},
		"p(min(X)).\np(X).\np(Y, mean(X)).\np(Y, X).\n?- q(X).\n")
}

func TestAsManyLiteralsAsMayBe(t *testing.T) {
	for s, l := range goodLiterals() {
		for n := 1; n <= api.MaxBody; n++ {
			checkRule(t, body(repeated(n, l)...), "p :- "+strings.Repeat(s+", ", n-1)+s+".")
		}
		for _, n := range []int{api.MaxBody + 1, api.MaxBody + 2, 500} {
			checkRule(t, body(repeated(n, l)...), "")
		}
	}
	if Rule(body(make([]api.Literal, 1<<20)...)) != "" {
		t.Error("a million literals are valid")
	}
	checkRule(t, api.Rule{Head: atom("p", num(1)), Body: []api.Literal{}}, "p(1).")
}

func TestAsManyRulesAsMayBe(t *testing.T) {
	x := named("X")
	for s, y := range map[string]api.Rule{
		"p.": rule(atom("p")), "p(count(X)).": folded(api.Count, x), "p :- r(X).": body(api.Literal{Kind: api.Holds, Atom: atom("r", x)}),
	} {
		for _, n := range []int{0, 1, 2, api.MaxRules - 1, api.MaxRules} {
			checkProgram(t, api.Program{Rules: repeated(n, y), Query: atom("q", x)}, strings.Repeat(s+"\n", n)+"?- q(X).\n")
		}
		for _, n := range []int{api.MaxRules + 1, api.MaxRules + 2, 2000} {
			checkProgram(t, api.Program{Rules: repeated(n, y), Query: atom("q", x)}, "")
		}
	}
	if Right(api.Program{Rules: make([]api.Rule, 1<<20), Query: atom("q")}) {
		t.Error("a million rules are valid")
	}
	checkProgram(t, api.Program{Rules: []api.Rule{}, Query: atom("q")}, "?- q.\n")
}

// One rule that is not valid, or the query, makes the program so.
func TestWhereAProgramIsWrong(t *testing.T) {
	good, q := rule(atom("p", named("X"))), atom("q")
	for _, x := range []api.Rule{{}, rule(atom("not")), folded(api.Sum), body(api.Literal{})} {
		for _, n := range []int{0, 1, 7, api.MaxRules - 1} {
			for _, i := range []int{0, n / 2, n} {
				checkProgram(t, api.Program{Rules: slices.Insert(repeated(n, good), i, x), Query: q}, "")
			}
		}
	}
	for _, a := range []api.Atom{{}, atom("not"), atom("q", api.Term{}), atom("Q")} {
		checkProgram(t, api.Program{Query: a}, "")
		checkProgram(t, api.Program{Rules: []api.Rule{good}, Query: a}, "")
	}
	checkProgram(t, api.Program{}, "")
	checkProgram(t, api.Program{Rules: []api.Rule{{}}}, "")
	checkRule(t, api.Rule{}, "")
}

// sized returns a program whose text has size bytes, and that text.
func sized(size int, query api.Atom) (api.Program, string) {
	p := api.Program{Query: query}
	end := "?- " + Atom(query) + ".\n"
	var text strings.Builder
	add := func(a api.Atom, s string) {
		p.Rules = append(p.Rules, rule(a))
		text.WriteString(s + ".\n")
	}
	const word = "abcdefghijklmnopqrstuvwxyz_abcdefghijklm"
	left := func() int { return size - text.Len() - len(end) }
	for long := word + strings.Repeat(", "+word, api.MaxArity-1); left() >= 400; {
		add(atom("p", repeated(api.MaxArity, sym(word))...), "p("+long+")")
	}
	// The least fact has three bytes, so as many must be left, unless none are.
	for left() > len(word)+2 {
		s := word[:min(len(word), left()-5)]
		add(atom(s), s)
	}
	if n := left(); n > 0 {
		add(atom(word[:n-2]), word[:n-2])
	}
	return p, text.String() + end
}

func TestAsManyBytesAsMayBe(t *testing.T) {
	for _, query := range []api.Atom{atom("q"), atom("q", named("X")), atom("q", repeated(api.MaxArity, sym(strings.Repeat("b", api.MaxName)))...)} {
		for _, n := range []int{1000, api.MaxText - 2, api.MaxText - 1, api.MaxText} {
			p, want := sized(n, query)
			if len(want) != n {
				t.Fatalf("the text has %d bytes, not %d", len(want), n)
			}
			checkProgram(t, p, want)
		}
		for _, n := range []int{api.MaxText + 1, api.MaxText + 2, 2 * api.MaxText} {
			p, _ := sized(n, query)
			checkProgram(t, p, "")
			for _, x := range p.Rules {
				if Rule(x) == "" {
					t.Errorf("the rule %+v of a program that is too long is not valid", x)
				}
			}
		}
	}
	// The last byte may also be one of a predicate in the query.
	p, _ := sized(api.MaxText, atom("q"))
	p.Query.Pred = "qq"
	checkProgram(t, p, "")
}

// A rule by itself may be longer than a program.
func TestLongRules(t *testing.T) {
	label := strings.Repeat("a", api.MaxName)
	path := steps("a" + strings.Repeat("a/", api.MaxSteps/2-1))
	for i := range path {
		if path[i].Label != "" {
			path[i].Label = label
		}
	}
	walk := api.Literal{Kind: api.Walk, A: named("X"), Path: path, B: named("Y")}
	s := "walk(X, " + label + strings.Repeat("/"+label, api.MaxSteps/2-1) + ", Y)"
	want := "p :- " + s + strings.Repeat(", "+s, api.MaxBody-1) + "."
	x := body(repeated(api.MaxBody, walk)...)
	if len(want) <= api.MaxText || Rule(x) != want {
		t.Errorf("a rule whose text has %d bytes is %.300q", len(want), Rule(x))
	}
	checkProgram(t, api.Program{Rules: []api.Rule{x}, Query: atom("q")}, "")
	checkProgram(t, api.Program{Rules: repeated(api.MaxRules, x), Query: atom("q")}, "")
	short := body(repeated(api.MaxBody/2, walk)...)
	checkProgram(t, api.Program{Rules: []api.Rule{short}, Query: atom("q")}, "p :- "+s+strings.Repeat(", "+s, api.MaxBody/2-1)+".\n?- q.\n")
}

// A program that was parsed may be too long as a text, if it was written with fewer spaces.
func TestParsedProgramsThatAreTooLong(t *testing.T) {
	valid := 0
	for n := 1; n <= 7; n++ {
		q := strings.Repeat("q", n)
		source := strings.Repeat("p:-"+strings.Repeat(q+",", api.MaxBody-1)+q+".", api.MaxRules) + "?-q."
		want := strings.Repeat("p :- "+strings.Repeat(q+", ", api.MaxBody-1)+q+".\n", api.MaxRules) + "?- q.\n"
		p, at, e := parse.Parse(source)
		if e != api.OK {
			t.Fatalf("a text of %d bytes has the error %d at %d", len(source), e, at)
		}
		if len(want) > api.MaxText {
			want = ""
		} else {
			valid++
		}
		checkProgram(t, p, want)
	}
	if valid == 0 || valid == 7 {
		t.Errorf("%d of the programs are valid", valid)
	}
}

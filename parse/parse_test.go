package parse

import (
	"slices"
	"strings"
	"testing"

	"antecedent/api"
)

func variable(s string) api.Term { return api.Term{Var: s} }
func sym(s string) api.Term      { return api.Term{Val: api.Value{Kind: api.Sym, S: s}} }
func num(n int64) api.Term       { return api.Term{Val: api.Value{Kind: api.Int, N: n}} }
func flo(n int64) api.Term       { return api.Term{Val: api.Value{Kind: api.Flo, N: n}} }

func atom(pred string, args ...api.Term) api.Atom { return api.Atom{Pred: pred, Args: args} }

func holds(a api.Atom) api.Literal { return api.Literal{Kind: api.Holds, Atom: a} }
func fails(a api.Atom) api.Literal { return api.Literal{Kind: api.Fails, Atom: a} }

func compare(a api.Term, op string, b api.Term) api.Literal {
	return api.Literal{Kind: api.Compare, A: a, Op: op, B: b}
}

func let(a, b api.Term, op string, c api.Term) api.Literal {
	return api.Literal{Kind: api.Let, A: a, B: b, Op: op, C: c}
}

func walk(a api.Term, path []api.Step, b api.Term) api.Literal {
	return api.Literal{Kind: api.Walk, A: a, Path: path, B: b}
}

func rule(head api.Atom, body ...api.Literal) api.Rule { return api.Rule{Head: head, Body: body} }

func folded(kind int, head api.Atom, body ...api.Literal) api.Rule {
	return api.Rule{Head: head, Fold: kind, Body: body}
}

// asking is the program with these rules that asks q.
func asking(rules ...api.Rule) api.Program {
	return api.Program{Rules: rules, Query: atom("q")}
}

// steps returns the steps that s tells in their order, separated by spaces: "a ^b * /".
func steps(s string) []api.Step {
	var l []api.Step
	for _, w := range strings.Fields(s) {
		// The marks stand at the numbers of their kinds.
		if kind := strings.Index("   /|*+?", w); kind > 0 {
			l = append(l, api.Step{Kind: kind})
		} else if label, back := strings.CutPrefix(w, "^"); back {
			l = append(l, api.Step{Kind: api.Back, Label: label})
		} else {
			l = append(l, api.Step{Kind: api.Along, Label: label})
		}
	}
	return l
}

// folds returns the words of folds with their kinds.
func folds() map[string]int {
	return map[string]int{"count": 1, "sum": 2, "min": 3, "max": 4, "mean": 5}
}

func comparisons() []string { return []string{"<", "<=", "=", "!="} }

func sameAtom(a, b api.Atom) bool { return a.Pred == b.Pred && slices.Equal(a.Args, b.Args) }

func sameLiteral(a, b api.Literal) bool {
	return a.Kind == b.Kind && sameAtom(a.Atom, b.Atom) && a.Op == b.Op && a.A == b.A && a.B == b.B && a.C == b.C && slices.Equal(a.Path, b.Path)
}

func sameRule(a, b api.Rule) bool {
	return sameAtom(a.Head, b.Head) && a.Fold == b.Fold && slices.EqualFunc(a.Body, b.Body, sameLiteral)
}

func sameProgram(a, b api.Program) bool {
	return slices.EqualFunc(a.Rules, b.Rules, sameRule) && sameAtom(a.Query, b.Query)
}

func checkParse(t *testing.T, text string, want api.Program) {
	t.Helper()
	if p, at, e := Parse(text); !sameProgram(p, want) || at != 0 || e != api.OK {
		t.Errorf("Parse(%.300q) is %+v, %d, %d, not %+v", text, p, at, e, want)
	}
}

// checkBody checks the literals of a text that is the body of a rule.
func checkBody(t *testing.T, text string, want ...api.Literal) {
	t.Helper()
	checkParse(t, "p :- "+text+". ?- q.", asking(rule(atom("p"), want...)))
}

func checkPath(t *testing.T, text string, want []api.Step) {
	t.Helper()
	if l, at, e := Path(text); !slices.Equal(l, want) || at != 0 || e != api.OK {
		t.Errorf("Path(%.300q) is %v, %d, %d, not %v", text, l, at, e, want)
	}
	checkBody(t, "walk(X, "+text+", Y)", walk(variable("X"), want, variable("Y")))
}

// unmark splits a text from the @ that marks the place of its error.
func unmark(t *testing.T, text string) (string, int) {
	t.Helper()
	if strings.Count(text, "@") != 1 {
		t.Fatalf("%.300q does not mark one place", text)
	}
	return strings.Replace(text, "@", "", 1), strings.Index(text, "@")
}

// checkError checks that a program has that error where an @ stands in its text.
func checkError(t *testing.T, text string, e api.Errno) {
	t.Helper()
	text, at := unmark(t, text)
	if p, k, f := Parse(text); !sameProgram(p, api.Program{}) || k != at || f != e {
		t.Errorf("Parse(%.300q) is %+v, %d, %d, not the error %d at %d", text, p, k, f, e, at)
	}
}

// checkPathError checks that a path has that error where an @ stands in its text.
func checkPathError(t *testing.T, text string, e api.Errno) {
	t.Helper()
	text, at := unmark(t, text)
	if l, k, f := Path(text); len(l) != 0 || k != at || f != e {
		t.Errorf("Path(%.300q) is %v, %d, %d, not the error %d at %d", text, l, k, f, e, at)
	}
}

// checkWrong checks programs that have ErrParse where an @ stands in their text.
func checkWrong(t *testing.T, texts ...string) {
	t.Helper()
	for _, s := range texts {
		checkError(t, s, api.ErrParse)
	}
}

// checkWrongBody does the same for texts that begin the body of a rule.
func checkWrongBody(t *testing.T, texts ...string) {
	t.Helper()
	for _, s := range texts {
		checkWrong(t, "p :- "+s, "p :- "+s+". ?- q.", "r. p(X, 3) :- r(X), "+s+", r. ?- q.")
	}
}

func TestParseOfTheExamples(t *testing.T) {
	x, y := variable("X"), variable("Y")
	checkParse(t, "p(X, count(Y)) :- walk(X, a/^b*, Y). ?- p(X, 3).", api.Program{
		Rules: []api.Rule{folded(api.Count, atom("p", x, y), walk(x, steps("a ^b * /"), y))},
		Query: atom("p", x, num(3)),
	})
	checkParse(t, "p(X) :- not q(X), Y is X plus 1, r(X).?-p(a, W).", api.Program{
		Rules: []api.Rule{rule(atom("p", x), fails(atom("q", x)), let(y, x, "+", num(1)), holds(atom("r", x)))},
		Query: atom("p", sym("a"), variable("W")),
	})
	checkParse(t, "e(a, b).\n?- e(a, X).\n", api.Program{Rules: []api.Rule{rule(atom("e", sym("a"), sym("b")))}, Query: atom("e", sym("a"), x)})
	checkParse(t, "p :- q, not r. q :- p. ?- q.", asking(rule(atom("p"), holds(atom("q")), fails(atom("r"))), rule(atom("q"), holds(atom("p")))))
}

func TestRulesAndQuery(t *testing.T) {
	checkParse(t, "?- q.", asking())
	checkParse(t, "\n?-\tq .\n", asking())
	checkParse(t, "?- q(X, 1).", api.Program{Query: atom("q", variable("X"), num(1))})
	checkParse(t, "p.?- q.", asking(rule(atom("p"))))
	checkParse(t, "p.p.r:-p.?-q.", asking(rule(atom("p")), rule(atom("p")), rule(atom("r"), holds(atom("p")))))
	// Without a query, with two, and with something behind it.
	checkWrong(t, "@", "  @", "\n@", "p@", "p.@", "p :- q.@", "p. p.\n@", "p. ?-@", "?-@", "?- \t@", "?- q@", "?- q(X)@", "?- q(X) @",
		"?- q. @?- q.", "?- q. @r.", "?- q.@.", "?- q. @p(X) :- q(X). ?- q.", "?- q.@)", "?- q. @X", "?- q. @3", "?- q. @not")
	// What is no query.
	checkWrong(t, "?- @?- q.", "?- q @?- q.", "?- q@, r.", "?- q @:- r.", "?- @.", "?- @not q.", "?- @X < 3.", "?- q @< 3.", "?- @walk(X, a, Y).", "?- @X is Y plus 1.")
	// What is no rule.
	checkWrong(t, "@. ?- q.", "@:- q. ?- q.", "p @?- q.", "p. @. ?- q.", "p. @, ?- q.", "p.@:- q. ?- q.", "p :- q @:- q. ?- q.", "p :- q @?- q.", "p :- @. ?- q.", "p :- q,@. ?- q.", "p :- q @r. ?- q.", "p@, q. ?- q.",
		"@X. ?- q.", "@3. ?- q.", "@(p). ?- q.", "@#0000000000000000. ?- q.", "p. @X :- p. ?- q.", "p :- q. @-1 < X. ?- q.", "p @q. ?- q.", "p @< q. ?- q.", "p @is q. ?- q.", "p :- q @is r. ?- q.")
}

func TestAtoms(t *testing.T) {
	args := []api.Term{variable("X"), num(3), num(-12), sym("a_1"), flo(0x3ff0000000000000), sym("not"), variable("Y_1z"), num(0)}
	texts := []string{"X", "3", "-12", "a_1", "#3ff0000000000000", "not", "Y_1z", "0"}
	for n := range len(args) + 1 {
		text, a := "p_2", atom("p_2", args[:n]...)
		if n > 0 {
			text += "(" + strings.Join(texts[:n], ",") + ")"
		}
		checkParse(t, text+". ?- q.", asking(rule(a)))
		checkParse(t, text+" :- q. ?- q.", asking(rule(a, holds(atom("q")))))
		checkParse(t, "?- "+text+".", api.Program{Query: a})
		checkBody(t, text, holds(a))
		checkBody(t, "not "+text, fails(a))
		checkBody(t, text+", not "+text+", "+text, holds(a), fails(a), holds(a))
	}
	for _, ahead := range []string{"", "?- ", "r :- ", "r :- not ", "r :- q, ", "r. r. "} {
		for _, s := range []string{
			"p@", "p(@", "p(@)", "p(X@", "p(X,@", "p(X,@)", "p(X,@,Y)", "p(@,X)", "p(X @Y)", "p(X @3)", "p(X @a)", "p(X@.", "p(X, 3@.", "p(X)@", "p(X)@)", "p(X)@(Y)", "p(X) @p", "p(X) @X",
			"p(@(X))", "p(q@(X))", "p(X@(Y))", "p(3@(Y))", "p(X @:- q", "p(X @< 3)", "p(X@/Y)", "p(X@|Y)", "p(@^p)", "p(@?- q.", "p@*", "p@)", "p @p", "p @X", "p @3", "p@/p", "@(X)", "@)", "@^p", "@*",
		} {
			checkWrong(t, ahead+s)
		}
	}
}

func TestEachKindOfLiteralWithEachKindOfTerm(t *testing.T) {
	kinds := map[string]api.Term{
		"X": variable("X"), "Yz_1": variable("Yz_1"), "0": num(0), "-7": num(-7), "9223372036854775807": num(1<<63 - 1), "-9223372036854775808": num(-1 << 63),
		"a": sym("a"), "b_2": sym("b_2"), "#0000000000000000": flo(0), "#ffffffffffffffff": flo(-1), "#7ff8000000000001": flo(0x7ff8000000000001),
	}
	for _, k := range keywords() {
		kinds[k] = sym(k)
	}
	z := variable("Z")
	for s, x := range kinds {
		checkParse(t, "p("+s+"). ?- q("+s+").", api.Program{Rules: []api.Rule{rule(atom("p", x))}, Query: atom("q", x)})
		checkBody(t, "r("+s+")", holds(atom("r", x)))
		checkBody(t, "not r(Z, "+s+")", fails(atom("r", z, x)))
		checkBody(t, "walk("+s+", a, Z)", walk(x, steps("a"), z))
		checkBody(t, "walk(Z, a, "+s+")", walk(z, steps("a"), x))
		for u, y := range kinds {
			for _, op := range comparisons() {
				checkBody(t, s+" "+op+" "+u, compare(x, op, y))
			}
			for word, op := range map[string]string{"plus": "+", "minus": "-", "times": "*"} {
				checkBody(t, "Z is "+s+" "+word+" "+u, let(z, x, op, y))
			}
		}
	}
	checkBody(t, "X<3,r,not s(X),Y is X times -2,walk(X,a,Y),Y!=a", compare(variable("X"), "<", num(3)), holds(atom("r")), fails(atom("s", variable("X"))),
		let(variable("Y"), variable("X"), "*", num(-2)), walk(variable("X"), steps("a"), variable("Y")), compare(variable("Y"), "!=", sym("a")))
}

// A word ahead of a comparison is a term, whatever it begins otherwise.
func TestWordsAheadOfComparisons(t *testing.T) {
	for _, k := range append(keywords(), "r", "nots", "walk_", "is1") {
		for _, op := range comparisons() {
			checkBody(t, k+op+"X", compare(sym(k), op, variable("X")))
			checkBody(t, "r, "+k+" "+op+" "+k, holds(atom("r")), compare(sym(k), op, sym(k)))
			checkWrongBody(t, k+op+"@(X)", k+op+"@"+op+" X", k+op+"X@"+op+"Y", k+op+"X @is Y plus 1", k+op+k+" @r", k+op+"r@(X)", "@"+op+"X")
		}
	}
	for _, op := range comparisons() {
		checkWrongBody(t, "r(X)@"+op+"3", "not r@"+op+"3", "not r(X)@"+op+"3", "not @not"+op+"3", "walk(X, a, Y)@"+op+"3", "not @X"+op+"3", "X is Y plus Z@"+op+"3", "X is Y@"+op+"3", "X is@"+op+"3")
	}
}

// Which tokens may follow the first one of a literal, for each kind of first token.
func TestTheSecondTokenOfALiteral(t *testing.T) {
	follow := map[string][]string{"r": {"(", ",", "."}, "X": {"is"}, "3": nil, "-1": nil, "#0000000000000000": nil}
	for _, k := range keywords() {
		follow[k] = nil
	}
	follow["not"] = []string{"r"}
	follow["walk"] = []string{"("}
	seconds := slices.Concat(keywords(), marks(), []string{"r", "X", "3", "-1", "#0000000000000000"})
	for first, good := range follow {
		for _, second := range seconds {
			if slices.Contains(good, second) || slices.Contains(comparisons(), second) {
				// It may follow, so the error is that the text ends behind it.
				checkWrong(t, "p :- "+first+" "+second+"@", "p :- s(X), "+first+" "+second+" @")
				continue
			}
			for _, more := range []string{"", " X", " < 3", ".", "(X).", " plus 1."} {
				checkWrong(t, "p :- "+first+" @"+second+more, "p :- s(X), "+first+" @"+second+more)
			}
		}
	}
}

func TestFailsAndLets(t *testing.T) {
	x, y := variable("X"), variable("Y")
	checkBody(t, "not r", fails(atom("r")))
	checkBody(t, "not\n\tnots(not)", fails(atom("nots", sym("not"))))
	checkBody(t, "X is Y plus 1", let(x, y, "+", num(1)))
	checkBody(t, "X is X minus-1", let(x, x, "-", num(-1)))
	checkBody(t, "X is is times times", let(x, sym("is"), "*", sym("times")))
	checkBody(t, "X is plus plus plus", let(x, sym("plus"), "+", sym("plus")))
	checkBody(t, "X is 3 times #3ff0000000000000", let(x, num(3), "*", flo(0x3ff0000000000000)))
	checkWrongBody(t, "not @X", "not @3", "not @(r)", "not @not r", "not @walk(X, a, Y)", "not @is", "not @sum(X)", "not @,", "not @^r", "not r @is", "not r @r", "not r@/r", "not r(X)@(Y)",
		"X is @(Y plus 3)", "X is @, r", "X is @.", "X is @+", "X is Y @Z", "X is Y @3", "X is Y @is Z", "X is Y @count Z", "X is Y @max Z", "X is Y @not Z", "X is Y @+ Z", "X is Y @* Z", "X is Y @-1", "X is Y@.", "X is Y@, r",
		"X is Y plus @(3)", "X is Y plus @.", "X is Y plus @, r", "X is Y plus 3 @plus 4", "X is Y plus 3 @r", "X is Y plus r@(X)", "X is r@(Y) plus 3", "X is Y@(Z)", "X is plus @3")
	for _, k := range slices.Concat(keywords(), []string{"r", "3", "-1", "#0000000000000000"}) {
		// Only a variable goes ahead of is.
		checkWrongBody(t, k+" @is Y plus 1", k+" @is")
	}
}

func TestWalks(t *testing.T) {
	checkBody(t, "walk(X, a, Y)", walk(variable("X"), steps("a"), variable("Y")))
	checkBody(t, "walk(X,a,X)", walk(variable("X"), steps("a"), variable("X")))
	checkBody(t, "walk ( walk , walk_1 , walk )", walk(sym("walk"), steps("walk_1"), sym("walk")))
	checkBody(t, "walk(3, (a|^b)*, #0000000000000000), walk(a, a?, 3)", walk(num(3), steps("a ^b | *"), flo(0)), walk(sym("a"), steps("a ?"), num(3)))
	checkWrong(t, "p :- walk@", "p :- walk(@", "p :- walk(X@", "p :- walk(X,@", "p :- walk(X, a@", "p :- walk(X, a,@", "p :- walk(X, a, Y@", "p :- walk(X, a, Y)@", "p :- walk(X, (a)@", "p :- walk(X, (a@", "p :- walk(X, a/@", "p :- walk(X, ^@")
	checkWrongBody(t, "walk(@)", "walk(@,a,Y)", "walk(X,@,Y)", "walk(X,a,@)", "walk(X@)", "walk(X, a@)", "walk(X, a, Y@, Z)", "walk(X, a, Y @Z)", "walk(X, a, Y@/b)", "walk(X, @Y, Z)", "walk(X, @3, Z)", "walk(X, @-1, Z)",
		"walk(@(X), a, Y)", "walk(X @a, Y)", "walk(X@/a, b, Y)", "walk(a@/b, c, Y)", "walk(a@|b, c, Y)", "walk(a@*, c, Y)", "walk(@^a, c, Y)", "walk(r@(X), a, Y)", "walk(X, a, r@(Z))", "walk(X, a, Y@(Z))", "walk(X, a, b@/c)", "walk(X, a, @^b)",
		"walk(X, a @b, Y)", "walk(X, a@(b), Y)", "walk(X, (a@, Y)", "walk(X, (a)@), Y)", "walk(X, @walk(X, a, Y), Y)", "walk(X, a, walk@(X, a, Y))", "walk(X, a@.", "walk(X, a, Y@.", "walk(X, a, Y)@)", "walk(X, a, Y) @r", "walk @X", "walk@.", "walk@, r", "walk @r")
}

func TestFolds(t *testing.T) {
	x, y := variable("X"), variable("Y")
	for w, kind := range folds() {
		checkParse(t, "p("+w+"(X)). ?- q.", asking(folded(kind, atom("p", x))))
		checkParse(t, "p ( "+w+"\t(\nX ) ) :- r(X). ?- q.", asking(folded(kind, atom("p", x), holds(atom("r", x)))))
		checkParse(t, "p(Y, "+w+"(X)) :- r(X, Y). ?- q.", asking(folded(kind, atom("p", y, x), holds(atom("r", x, y)))))
		checkParse(t, "p(a,3,X,"+w+"(X)). ?- q.", asking(folded(kind, atom("p", sym("a"), num(3), x, x))))
		checkParse(t, "p("+w+","+w+"(X)). ?- q.", asking(folded(kind, atom("p", sym(w), x))))
		// Without a variable in parentheses it is a term.
		checkParse(t, "p("+w+"). ?- q.", asking(rule(atom("p", sym(w)))))
		checkParse(t, "p("+w+", X, "+w+"). ?- q.", asking(rule(atom("p", sym(w), x, sym(w)))))
		// The fold of a rule is not that of another one.
		checkParse(t, "p(X). p("+w+"(X)). p(X). p(mean(Y)). p(X, "+w+"). ?- q.",
			asking(rule(atom("p", x)), folded(kind, atom("p", x)), rule(atom("p", x)), folded(api.Mean, atom("p", y)), rule(atom("p", x, sym(w)))))
		for _, ahead := range []string{"", "r. ", "r(" + w + "(Z)) :- s. "} {
			for _, args := range []string{"p(", "p(Y, ", "p(" + w + ", 3,"} {
				s := ahead + args + w
				checkWrong(t, s+"@", s+"(@", s+"(X@", s+"(X)@", s+"(X)@, Y). ?- q.", s+"(X)@,", s+"(X) @Y). ?- q.", s+"(X)@(Y)). ?- q.", s+"(X)@/a", s+"(X)@.", s+"(X) @:- r. ?- q.", s+"(@a)). ?- q.", s+"(@3)). ?- q.", s+"(@)). ?- q.", s+"(@(X))). ?- q.",
					s+"(@"+w+"(X))). ?- q.", s+"(@"+w+")). ?- q.", s+"(X@, Y)). ?- q.", s+"(X @Y)). ?- q.", s+"(X@(Y))). ?- q.", s+"(X)@, "+w+"(X)). ?- q.", s+" @X)", s+" @3)", s+"@*")
			}
		}
		// Neither an atom of a body nor the query has a fold, and nothing else has one.
		checkWrong(t, "?- q("+w+"@(X)).", "?- q(Y, "+w+"@(X)).", "@"+w+"(X). ?- q.", "@"+w+"(X) :- r(X). ?- q.")
		checkWrongBody(t, "r("+w+"@(X))", "r(Y, "+w+"@(X))", "not r("+w+"@(X))", w+"@(X)", w+"@(X) < 3", "X < "+w+"@(Y)", "X is "+w+"@(Y) plus 1", "X is 1 plus "+w+"@(Y)", "walk("+w+"@(X), a, Y)", "walk(X, @"+w+"(a), Y)", "walk(X, a, "+w+"@(Y))")
	}
	for _, w := range []string{"not", "is", "plus", "minus", "times", "walk", "r", "counts", "X", "3", "-1", "#0000000000000000"} {
		checkWrong(t, "p("+w+"@(X)). ?- q.", "p(Y, "+w+"@(X)). ?- q.")
	}
}

func TestKeywordsAreNoPredicates(t *testing.T) {
	for _, k := range keywords() {
		checkWrong(t, "@"+k+". ?- q.", "@"+k+"(X). ?- q.", "@"+k+" :- r. ?- q.", "p. @"+k+". ?- q.", "?- @"+k+".", "?- @"+k+"(X).")
		checkWrongBody(t, "not @"+k, "not @"+k+"(X)", "walk(X, @"+k+", Y)", "walk(X, ^@"+k+", Y)", "walk(X, a/@"+k+", Y)", "walk(X, a|@"+k+", Y)", "walk(X, (@"+k+"), Y)", "walk(X, @"+k+"*, Y)")
		for _, s := range []string{"@" + k, "^@" + k, "a/@" + k, "a|^@" + k, "(@" + k + ")", "a*/(b|@" + k + ")"} {
			checkPathError(t, s, api.ErrParse)
		}
		for _, more := range []string{"s", "_", "1"} {
			w := k + more
			checkParse(t, w+"(X) :- "+w+", not "+w+"(X), walk(X, "+w+"/^"+w+", X). ?- "+w+".", api.Program{
				Rules: []api.Rule{rule(atom(w, variable("X")), holds(atom(w)), fails(atom(w, variable("X"))), walk(variable("X"), steps(w+" ^"+w+" /"), variable("X")))},
				Query: atom(w),
			})
		}
	}
}

func TestPaths(t *testing.T) {
	for text, want := range map[string]string{
		"a": "a", "^a": "^a", " a_1\n": "a_1", "^ a": "^a",
		"a/b": "a b /", "a|b": "a b |", "a/b/c": "a b / c /", "a|b|c": "a b | c |", "a/b/c/d": "a b / c / d /", "a|b|c|d": "a b | c | d |",
		"a|b/c|d": "a b c / | d |", "a/b|c": "a b / c |", "a/b|c/d": "a b / c d / |", "a|b/c": "a b c / |", "a/b|c|d/e": "a b / c | d e / |",
		"a/(b|c)": "a b c | /", "(a|b)/c": "a b | c /", "a/(b/c)": "a b c / /", "a|(b|c)": "a b c | |", "(a/b)/c": "a b / c /", "(a|b)|c": "a b | c |", "a/(b/(c/d))": "a b c d / / /", "a|(b/c|d)": "a b c / d | |",
		"a*": "a *", "a+": "a +", "a?": "a ?", "a**": "a * *", "a++": "a + +", "a??": "a ? ?", "a*+?": "a * + ?", "a?+*?": "a ? + * ?", "a + ?\t*": "a + ? *",
		"^a*": "^a *", "^a?/^b+": "^a ? ^b + /", "a/b*": "a b * /", "a*/b": "a * b /", "a|b*": "a b * |", "a*|b": "a * b |", "a/b?|c+": "a b ? / c + |",
		"(a)": "a", "((a))": "a", "(^a)": "^a", "(a)*": "a *", "(a*)": "a *", "(a*)*": "a * *", "(((a)*)+)?": "a * + ?", "(^a)+": "^a +", "((a/b))": "a b /",
		"(a|b)*/a": "a b | * a /", "(a|b)+/^c": "a b | + ^c /", "(a/b)*": "a b / *", "(a/b)*|c?": "a b / * c ? |", "(a|b)?+": "a b | ? +", "a/(b|c)*/d": "a b c | * / d /", "(a)/(b)": "a b /", "(a)|(b)": "a b |",
		"a*/b+|^c?/(d|e)*": "a * b + / ^c ? d e | * / |", "((a|b)/(c|d))+|e": "a b | c d | / + e |", "(a/(b|c)|d)*/^e": "a b c | / d | * ^e /",
	} {
		checkPath(t, text, steps(want))
	}
}

func TestWrongPaths(t *testing.T) {
	for _, s := range []string{
		"@", " @", "a/@", "a|@", "^@", "(@", "(a@", "(a @", "(a)/@", "a/(b@", "((a)@", "((a@", "(a/@", "(^@", "a|b/@", "a*/@",
		"@/a", "@|a", "@*", "@+", "@?", "@)", "@,", "@.", "@X", "@3", "@-1", "@#0000000000000000", "@<", "@?-",
		"a @b", "a@^b", "a@(b)", "a @X", "a @3", "a@)", "a@,", "a@.", "a@:-", "a@<b", "a@=", "a@?-b", "a?@?-b", "a*@a", "a*@^b", "a*@(b)", "(a)@b", "(a)@(b)", "(a)@)", "(a)@^b",
		"a/@/b", "a|@|b", "a|@/b", "a/@|b", "a/@*", "a|@*", "a/@+", "a/@?", "a/@)", "a/@X", "a/@3", "a|@X", "a|@-1",
		"^@^a", "^@(a)", "^@(^a)", "^@*", "^@X", "^@3", "^@/a", "^@|a", "^@)",
		"(@)", "(@*)", "(@/a)", "(@|a)", "(a/@)", "(a|@)", "(a @b)", "(a@,b)", "(a@X)", "((@))", "(a@(b))", "(^@)", "(a@^b)", "(a)*@(b)",
	} {
		checkPathError(t, s, api.ErrParse)
		// In a walk, a comma may follow a path.
		if !strings.HasSuffix(s, "@") && !strings.HasSuffix(s, "a@,") {
			checkWrongBody(t, "walk(X, "+s)
		}
	}
	// A program is no path, and a path no program.
	checkPathError(t, "p @:- walk(X, a, Y). ?- q.", api.ErrParse)
	checkWrong(t, "a@/b", "@^a", "@(a)")
}

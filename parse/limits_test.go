package parse

import (
	"slices"
	"strings"
	"testing"

	"antecedent/api"
)

// times returns n times s, separated by gap.
func times(n int, s, gap string) string {
	return strings.TrimSuffix(strings.Repeat(s+gap, n), gap)
}

// ahead returns s with the mark of an error ahead of it.
func ahead(s string) string { return "@" + s }

// anyTerms are terms of each kind.
func anyTerms() []string {
	return append(keywords(), "X", "3", "-1", "#0000000000000000", "r")
}

// anyLiterals are literals of each kind, also such that begin with a keyword that usually begins another one.
func anyLiterals() []string {
	return []string{"r", "r(X)", "not r", "X < 3", "3 = X", "not != X", "walk <= 3", "sum < 3", "Y is X plus 1", "walk(X, a*, Y)"}
}

// checkOK checks that a text is a program.
func checkOK(t *testing.T, text string) api.Program {
	t.Helper()
	p, at, e := Parse(text)
	if at != 0 || e != api.OK {
		t.Errorf("Parse(%.300q) has the error %d at %d", text, e, at)
	}
	return p
}

func TestAsManyTermsAsMayBe(t *testing.T) {
	for _, from := range []string{"p", "r. p", "?- p", "r :- p", "r :- not p", "r(X, Y, Z) :- s(X, Y, Z), t(X), not p"} {
		to := map[bool]string{true: ".", false: ". ?- q."}[from == "?- p"]
		for _, x := range anyTerms() {
			for n := range api.MaxArity {
				checkOK(t, from+"("+times(n+1, x, ", ")+")"+to)
			}
			full := from + "(" + times(api.MaxArity, x, ",") + ","
			for _, y := range anyTerms() {
				for _, s := range []string{ahead(y) + ")" + to, " " + ahead(y) + ", a)" + to, ahead(y), ahead(y) + "(X))" + to, "\n" + ahead(y) + ", " + times(20, y, ","), ahead(y) + " ?- q"} {
					checkError(t, full+s, api.ErrLong)
				}
			}
			// What begins no term is not one too many.
			for _, y := range []string{"@)", " @,a)", "@(X)", "@", "@.", "@^a"} {
				checkError(t, full+y, api.ErrParse)
			}
		}
	}
	// A fold counts as one, and begins with its word.
	for w, kind := range folds() {
		p := checkOK(t, "p("+times(api.MaxArity-1, "Y", ", ")+", "+w+"(X)). ?- q.")
		if a := p.Rules[0].Head.Args; len(a) != api.MaxArity || a[api.MaxArity-1].Var != "X" || p.Rules[0].Fold != kind {
			t.Errorf("a fold behind as many terms as may be: %+v", p)
		}
		full := "p(" + times(api.MaxArity, "Y", ", ") + ", "
		checkError(t, full+ahead(w)+"(X)). ?- q.", api.ErrLong)
		checkError(t, full+ahead(w)+"(3)). ?- q.", api.ErrLong)
		checkError(t, full+ahead(w), api.ErrLong)
		checkError(t, "p("+times(api.MaxArity-1, "Y", ", ")+", "+w+"(X)@, Y). ?- q.", api.ErrParse)
	}
	// Each atom has terms of its own.
	full := "p(" + times(api.MaxArity, "X", ", ") + ")"
	checkOK(t, times(3, full+" :- "+full+", not "+full+", "+full+".", " ")+" ?- "+full+".")
}

func TestAsManyLiteralsAsMayBe(t *testing.T) {
	for _, l := range anyLiterals() {
		for n := range api.MaxBody {
			p := checkOK(t, "r. p :- "+times(n+1, l, ", ")+". ?- q.")
			if len(p.Rules) != 2 || len(p.Rules[1].Body) != n+1 {
				t.Errorf("%d literals: %+v", n+1, p)
			}
		}
		for _, head := range []string{"p", "r. p(X, 3)", "p(count(X))"} {
			full := head + " :- " + times(api.MaxBody, l, ", ") + ","
			for _, m := range anyLiterals() {
				checkError(t, full+ahead(m)+". ?- q.", api.ErrLong)
				checkError(t, full+"\n "+ahead(m)+", "+l+". ?- q.", api.ErrLong)
				checkError(t, full+ahead(m), api.ErrLong)
			}
			for _, x := range anyTerms() {
				checkError(t, full+" "+ahead(x), api.ErrLong)
			}
			for _, s := range []string{"@.", " @, r", "@(r)", "@", " @", "@< 3", "@:- r", "@^r", "@?- q."} {
				checkError(t, full+s, api.ErrParse)
			}
		}
	}
	// Each rule has literals of its own.
	full := "p :- " + times(api.MaxBody, "r(X)", ", ") + "."
	checkOK(t, times(3, full, " ")+" ?- q.")
	checkError(t, full+strings.Replace(full, ".", ", @r.", 1)+" ?- q.", api.ErrLong)
}

func TestAsManyRulesAsMayBe(t *testing.T) {
	for _, x := range []string{"p.", "p(X, 3) :- r(X), not s.", "p(count(X))."} {
		for _, n := range []int{1, 2, api.MaxRules - 1, api.MaxRules} {
			if p := checkOK(t, times(n, x, " ")+" ?- q."); len(p.Rules) != n {
				t.Errorf("%d rules: there are %d", n, len(p.Rules))
			}
		}
		full := times(api.MaxRules, x, "\n")
		for _, s := range []string{"@p. ?- q.", " @p(X) :- r(X). ?- q.", "\n@p", "@p(", " @r(X, not). p. ?- q", "@nots. ?- q."} {
			checkError(t, full+s, api.ErrLong)
		}
		for _, s := range []string{"@", "@not. ?- q.", "@X. ?- q.", "@3", " @. ?- q.", "@:- q. ?- q.", "?-@", "?- q@", "?- q. @p.", "?- q. @?- q.", "@(p)"} {
			checkError(t, full+s, api.ErrParse)
		}
	}
}

// longPaths returns paths of n steps (an odd number of them, at least 3), none of them in parentheses as a whole.
func longPaths(n int) []string {
	return []string{
		"a" + strings.Repeat("*", n-1), "^a " + times(n-1, "+", " "), "a" + strings.Repeat("?", n-1), times(n/2+1, "a", "/"), times(n/2+1, "^a", "|"),
		"(a)" + strings.Repeat("*", n-1), "(a|b)/" + times(n/2-1, "a", "|"), times(n/2+1, "a", " | "), times(n/2+1, "(a)", "/"),
	}
}

func TestAsManyStepsAsMayBe(t *testing.T) {
	const most = api.MaxSteps
	for _, s := range append(longPaths(most-1), longPaths(most - 1)[0]+"*", times(most/2, "a", "/")+"?", "("+times(most/2, "a", "|")+")+", times(most/2-1, "a", "|")+"|a*") {
		l, at, e := Path(s)
		if n := len(l); n < most-1 || n > most || at != 0 || e != api.OK {
			t.Errorf("Path(%q) has %d steps, and the error %d at %d", s, n, e, at)
		}
		checkBody(t, "walk(X, "+s+", Y)", walk(variable("X"), l, variable("Y")))
		// Each walk has steps of its own.
		p := checkOK(t, "p :- walk(X, "+s+", Y), walk(X, "+s+", Y). p :- walk(X, "+s+", Y). ?- q.")
		if len(p.Rules) != 2 || len(p.Rules[0].Body) != 2 || !slices.Equal(p.Rules[0].Body[1].Path, l) || !slices.Equal(p.Rules[1].Body[0].Path, l) {
			t.Errorf("three walks by %q: %+v", s, p)
		}
	}
	for _, n := range []int{most + 1, most + 3, 3*most + 1} {
		for _, s := range append(longPaths(n), longPaths(n)[0]+"*", longPaths(n)[3]+"?") {
			checkLong(t, s)
		}
	}
}

// checkLong checks a path of too many steps, also with something else that is wrong behind it.
func checkLong(t *testing.T, path string) {
	t.Helper()
	for _, more := range []string{"", " ", " a", "^a", "(a)", "X", ")", ",", " 3", ".", "?-"} {
		checkPathError(t, ahead(path)+more, api.ErrLong)
		checkPathError(t, "\n "+ahead(path)+more, api.ErrLong)
	}
	for _, more := range []string{", Y). ?- q.", "", ",", ", Y", ")", " a", "^a", "(a)", "X", ", Y, Z)", ".", " ?- q.", ", (Y))", ", Y), not not"} {
		checkError(t, "p :- walk(X, "+ahead(path)+more, api.ErrLong)
		checkError(t, "r. p :- r, walk(3,"+ahead(path)+more, api.ErrLong)
	}
	// What is wrong within a path comes first: then it has not been read.
	for _, more := range []string{"/@", "|@", "/@/a", "|@*", "/^@(a)", "/@X", "/(a@", "|(a @b)"} {
		checkPathError(t, path+more, api.ErrParse)
	}
}

// A path in parentheses is a path: it has been read where they are closed, ahead of the one that it is a part of.
func TestTooManyStepsInParentheses(t *testing.T) {
	long := times(api.MaxSteps/2+1, "a", "/")
	for _, s := range []string{"(@L)", "((@L))", "b/(@L)", "(b|(@L)*)+", "(@L", "(@L b)", "(@L)/", "(@L)|(L)", "(b)/(@L)/(L)"} {
		s = strings.ReplaceAll(s, "L", long)
		checkPathError(t, s, api.ErrLong)
		checkError(t, "p :- walk(X, "+s+", Y). ?- q.", api.ErrLong)
	}
	short := times(api.MaxSteps/2, "a", "/")
	checkPathError(t, "@("+short+")/("+short+")", api.ErrLong)
	checkPathError(t, "@b/("+short+")", api.ErrLong)
	checkPathError(t, "((@("+short+")|b)/c)*", api.ErrLong)
}

// nested returns s in n pairs of parentheses.
func nested(n int, s string) string {
	return strings.Repeat("(", n) + s + strings.Repeat(")", n)
}

func TestAsManyOpenAsMayBe(t *testing.T) {
	const most = api.MaxDepth
	for n := range most {
		checkPath(t, nested(n+1, "a"), steps("a"))
		checkPath(t, "("+nested(n, "a")+"/b)*", steps("a b / *"))
	}
	deepest := nested(most, "a")
	checkPath(t, deepest+"/"+deepest, steps("a a /"))
	checkPath(t, "(a)/("+nested(most-1, "b")+"|"+nested(most-1, "c")+")", steps("a b c | /"))
	checkPath(t, times(most+8, "(a)", "/"), steps("a"+strings.Repeat(" a /", most+7)))
	checkPath(t, strings.Repeat("(a/", most)+"b"+strings.Repeat(")*", most), steps(strings.Repeat("a ", most)+"b"+strings.Repeat(" / *", most)))
	checkOK(t, "p(count(X)) :- walk(X, "+deepest+", Y), walk(X, "+deepest+", Y). ?- q(X).")
	open := strings.Repeat("(", most)
	for _, s := range []string{
		open + "@(a" + strings.Repeat(")", most+1), open + "@(", open + " \n@(X", open + "@((a", open + "a/@(b)", open + "a|@(", open + "a*/^b/@(", strings.Repeat("(a/", most) + "@(",
		"(a)/" + open + "@(a)", deepest + "/" + open + "@(", open + "a)/(b/@(c", "((a))|" + open + "a|@(b",
	} {
		checkPathError(t, s, api.ErrDepth)
		checkError(t, "p :- walk(X, "+s+", Y). ?- q.", api.ErrDepth)
		checkError(t, "p(count(X)) :- r(X), walk(X, "+s, api.ErrDepth)
		checkError(t, "r :- walk(X, "+deepest+", Y). p :- walk(X, "+s, api.ErrDepth)
	}
	// A ( where none may be is wrong, however many are open.
	for _, s := range []string{open + "a@(b)", open + "^@(a)", open + "a*@(", open + "a)@(", open + "@)", open + "@", open + "a)/@", deepest + "@("} {
		checkPathError(t, s, api.ErrParse)
		if !strings.HasSuffix(s, "@") {
			checkWrongBody(t, "walk(X, "+s)
		}
	}
}

// wrongLiterals are literals with each kind of error.
func wrongLiterals() map[string]api.Errno {
	return map[string]api.Errno{
		"r(" + times(api.MaxArity, "X", ",") + ", @X)":                        api.ErrLong,
		"not r(" + times(api.MaxArity, "X", ",") + ", @max(X))":               api.ErrLong,
		"walk(X, @" + times(api.MaxSteps, "a", "|") + ", Y)":                  api.ErrLong,
		"walk(X, " + strings.Repeat("(", api.MaxDepth) + "@(a, Y)":            api.ErrDepth,
		"walk(X, " + strings.Repeat("(", api.MaxDepth) + "a/" + "@(a)/b*, Y)": api.ErrDepth,
		"X @r":        api.ErrParse,
		"X < @< 3":    api.ErrParse,
		"not @not":    api.ErrParse,
		"r(X @Y":      api.ErrParse,
		"sum@(X)":     api.ErrParse,
		"walk(X, @Y)": api.ErrParse,
	}
}

// wrongRules are rules with each kind of error.
func wrongRules() map[string]api.Errno {
	l := map[string]api.Errno{
		"p(" + times(api.MaxArity, "X", ",") + ", @X).":        api.ErrLong,
		"p(" + times(api.MaxArity, "X", ",") + ", @count(X)).": api.ErrLong,
		"p :- " + times(api.MaxBody, "r", ",") + ", @r.":       api.ErrLong,
		"p(count(X)@, Y).": api.ErrParse,
		"p @r.":            api.ErrParse,
	}
	for s, e := range wrongLiterals() {
		l["p :- "+s+"."] = e
		l["p(X) :- r(X), "+s+", r."] = e
	}
	return l
}

func TestTheFirstOfTwoErrors(t *testing.T) {
	for a, e := range wrongRules() {
		for b := range wrongRules() {
			b = strings.Replace(b, "@", "", 1)
			checkError(t, a+" "+b+" ?- q.", e)
			checkError(t, "r. "+a+" r. "+b+" not. ?- q", e)
		}
		checkError(t, a+" ?- not.", e)
		checkError(t, a+" ?- q(X", e)
		checkError(t, a+" ?- q. ?- q.", e)
		checkError(t, a+times(api.MaxRules, "r.", "")+" ?- q.", e)
		// Rules too many are an error where the first of them begins.
		b := strings.Replace(a, "@", "", 1)
		checkError(t, times(api.MaxRules-1, "r.", "")+a+"r. ?- q.", e)
		checkError(t, times(api.MaxRules, "r.", "")+ahead(b)+" ?- q.", api.ErrLong)
		checkError(t, times(api.MaxRules, "r.", "")+"@r."+b+" ?- q.", api.ErrLong)
		checkError(t, "?- q. "+ahead(b), api.ErrParse)
		checkError(t, "@not. "+b+" ?- q.", api.ErrParse)
	}
	for a, e := range wrongLiterals() {
		for b := range wrongLiterals() {
			b = strings.Replace(b, "@", "", 1)
			checkError(t, "p :- "+a+", "+b+". ?- q.", e)
			checkError(t, "p :- r, "+a+", r, "+b+", not. ?- q", e)
		}
		// So are literals too many.
		b := strings.Replace(a, "@", "", 1)
		checkError(t, "p :- "+times(api.MaxBody-1, "r", ",")+", "+a+", r. ?- q.", e)
		checkError(t, "p :- "+times(api.MaxBody, "r", ",")+", "+ahead(b)+". ?- q.", api.ErrLong)
		checkError(t, "p :- "+times(api.MaxBody, "r", ",")+", @r, "+b+". ?- q.", api.ErrLong)
	}
}

// A text without tokens has the error of its tokens, whatever else is wrong with it.
func TestErrorsOfTokens(t *testing.T) {
	for _, s := range []string{"@&", "@#", "@007", "@1x", "@!", "@:", "@-", "@\x00", "@\xff", "@" + strings.Repeat("q", api.MaxName+1), "@" + strings.Repeat("Q", api.MaxName+1)} {
		checkWrong(t, s, "p. ?- q. "+s, "p. ?- "+s+".", s+" p. ?- q.", "p :- r("+s+"). ?- q.", "p. p :- not not. ?- "+s, "not. ?- q"+" "+s)
		checkPathError(t, s, api.ErrParse)
		checkPathError(t, "a/b "+s, api.ErrParse)
		checkPathError(t, "a/ "+s+"/b", api.ErrParse)
		for a := range wrongRules() {
			checkWrong(t, strings.Replace(a, "@", "", 1)+" ?- q. "+s)
		}
		checkPathError(t, strings.Repeat("(", api.MaxDepth+1)+" "+s, api.ErrParse)
		checkPathError(t, longPaths(api.MaxSteps + 1)[0]+" "+s, api.ErrParse)
		bare := strings.Replace(s, "@", "", 1)
		if n := Deep("((a " + bare); n != 0 {
			t.Errorf("Deep(%q) is %d", "((a "+bare, n)
		}
	}
}

func TestTextsOfTheGreatestLength(t *testing.T) {
	pad := func(s string, size int) string { return s + strings.Repeat(" ", size-len(s)) }
	const most = api.MaxText
	checkParse(t, pad("p. ?- q.", most), asking(rule(atom("p"))))
	checkError(t, pad("p. ?- q", most)+"@", api.ErrParse)
	checkError(t, strings.Repeat(" ", most)+"@", api.ErrParse)
	checkError(t, pad("p. ?- ", most-1)+"@.", api.ErrParse)
	if l, at, e := Path(pad("a/b", most)); !slices.Equal(l, steps("a b /")) || at != 0 || e != api.OK {
		t.Errorf("a path of as many bytes as may be: %v, %d, %d", l, at, e)
	}
	checkPathError(t, pad("a/", most)+"@", api.ErrParse)
	for _, s := range []string{"p. ?- q.", "p. ?- q", "", "a/b", "not", "&", "p :- " + times(api.MaxBody+1, "r", ","), strings.Repeat("(", 100)} {
		checkError(t, "@"+pad(s, most+1), api.ErrLong)
		checkPathError(t, "@"+pad(s, most+1), api.ErrLong)
		if n := Deep(pad(s, most+1)); n != 0 {
			t.Errorf("Deep of a text that is too long is %d", n)
		}
	}
}

func TestDeep(t *testing.T) {
	for s, want := range map[string]int{
		"": 0, " \n": 0, "a": 0, ")": 0, "))": 0, "a)": 0, "(": 1, "((": 2, "()": 1, "(a)": 1, "((a))": 2, "((a)": 2, "(a))": 1, "(()": 2, "()(": 1, "()()": 1, "()(())()": 2, "(()(": 2, "(()((": 3,
		")(": 1, "))((": 2, ")))(": 1, "(a))((b": 2, "())((": 2, "())))(": 1, "(()))(()(": 2, "(((a)b)c)": 3, "( \n(\t( X": 3,
		"a/(b|c)": 1, "a/(b|(c/d)*)+": 2, "p(X, count(Y)) :- walk(X, (a|(b)), Y). ?- p(X, 3).": 3, "p(X) :- q(X). ?- r(X)": 1, "p(X :- q(Y :- r(Z": 3, ". , ?- ( not (": 2,
		"((&": 0, "(1x)": 0, "(#)": 0, "((:": 0, "(-)": 0,
		strings.Repeat("(", api.MaxText): api.MaxText, strings.Repeat(")", api.MaxText): 0, strings.Repeat("()", api.MaxText/2): 1, nested(api.MaxText/2, ""): api.MaxText / 2, nested(api.MaxDepth+1, "a"): api.MaxDepth + 1,
	} {
		if n := Deep(s); n != want {
			t.Errorf("Deep(%.60q) is %d, not %d", s, n, want)
		}
	}
}

// openIn returns how many ( of s are open at its end: those that are left when pairs are taken away.
func openIn(s string) int {
	for strings.Contains(s, "()") {
		s = strings.ReplaceAll(s, "()", "")
	}
	return strings.Count(s, "(")
}

// All texts of up to ten parentheses.
func TestDeepOfAllShortTexts(t *testing.T) {
	texts := []string{""}
	for len(texts[0]) <= 10 {
		var longer []string
		for _, s := range texts {
			want := 0
			for i := range len(s) + 1 {
				want = max(want, openIn(s[:i]))
			}
			for _, text := range []string{s, strings.ReplaceAll(s, ")", " a)\n"), "p" + s + "."} {
				if n := Deep(text); n != want {
					t.Fatalf("Deep(%q) is %d, not %d", text, n, want)
				}
			}
			longer = append(longer, s+"(", s+")")
		}
		texts = longer
	}
}

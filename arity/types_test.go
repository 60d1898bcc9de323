package arity

import (
	"fmt"
	"strings"
	"testing"

	"antecedent/api"
)

// letter returns the letter of a kind.
func letter(kind int) string { return letters[kind : kind+1] }

// fact returns a fact for a predicate with a value of that kind, or nothing for the kind 0.
func fact(pred string, kind int) string {
	if kind == 0 {
		return ""
	}
	return pred + "(" + values()[kind] + "). "
}

// A value, at each place of each atom, determines the column there, and what has the same variable.
func TestValuesInAtoms(t *testing.T) {
	for kind, value := range values() {
		if kind == 0 {
			continue
		}
		for text, want := range map[string]string{
			"r(@). ?- q.":                       "q r(@)",
			"?- r(@).":                          "r(@)",
			"q :- r(@). ?- q.":                  "q r(@)",
			"q :- not r(@). ?- q.":              "q r(@)",
			"r(@) :- s. ?- q.":                  "q r(@) s",
			"r(X, @, Y). ?- q.":                 "q r(?@?)",
			"r(@, @, X, @). ?- q.":              "q r(@@?@)",
			"r(X) :- s(@, X), s(X, Y). ?- q.":   "q r(@) s(@@)",
			"r(X) :- s(@, Y), s(Y, X). ?- q.":   "q r(@) s(@@)",
			"r(X) :- s(@, Y), s(Z, X). ?- q.":   "q r(?) s(@?)",
			"r(X) :- not s(X, @). s(@, Y).?-q.": "q r(@) s(@@)",
			"r(X) :- s(X). ?- s(@).":            "r(@) s(@)",
			"r(X) :- s(X). ?- r(@).":            "r(@) s(@)",
			"r(X) :- not s(X). ?- r(@).":        "r(@) s(@)",
			"r(X, @). ?- r(@, X).":              "r(@@)",
			"r(X, Y) :- r(Y, X). ?- r(X, @).":   "r(@@)",
			"r(@, count(X)) :- s(X). ?- q.":     "q r(@i) s(?)",
			"r(@, mean(X)) :- s(X). ?- q.":      "q r(@f) s(?)",
			"r(@, sum(X)) :- s(X). ?- q.":       "q r(@?) s(?)",
			"r(@, max(X)) :- s(X, @). ?- q.":    "q r(@?) s(?@)",
		} {
			check(t, strings.ReplaceAll(text, "@", value), strings.ReplaceAll(want, "@", letter(kind)))
		}
	}
}

// Two values at the same column, in each two places.
func TestTwoValuesInAtoms(t *testing.T) {
	for a, x := range values() {
		for b, y := range values() {
			if a == 0 || b == 0 {
				continue
			}
			for _, text := range []string{
				"r(@1). r(@2). ?- q.", "r(@1). ?- r(@2).", "r(@1). q :- r(@2). ?- q.", "r(@1). q :- not r(@2). ?- q.",
				"q :- r(@1), r(@2). ?- q.", "q :- r(@1), not r(@2). ?- q.", "q :- not r(@1), not r(@2). ?- q.", "q :- r(@1). ?- r(@2).", "q :- not r(@1). ?- r(@2).",
				"r(@1) :- s. q :- r(@2). ?- q.", "r(@1) :- r(@2). ?- q.", "r(@1) :- not r(@2). ?- q.",
				"s(@1). s(X) :- r(X). ?- r(@2).", "s(@1). r(X) :- s(X). ?- r(@2).", "q :- s(X, @1), r(X), s(@2, Y), r(Y). r(Z) :- s(W, Z). ?- q.",
				"s(@1). q :- s(X), r(X), X = X. r(@2). ?- q.", "r(@1, count(X)) :- s(X). ?- r(@2, Y).", "r(@1, sum(X)) :- s(X). r(@2, mean(X)) :- s(X). ?- q.",
			} {
				text = strings.NewReplacer("@1", x, "@2", y).Replace(text)
				if p := program(t, text); a == b {
					checkProgram(t, p, defined(p))
					if _, e := Kinds(p); e != api.OK {
						t.Errorf("%q has the error %d", text, e)
					}
				} else {
					checkProgram(t, p, "type")
				}
			}
		}
	}
}

// columnsOfFolds are what is told of r(W(X)) :- v(X), W being the word of a fold, if v has a fact of each kind (0: none).
func columnsOfFolds() map[string][]string {
	return map[string][]string{
		"":      {"q r(?) v(?)", "q r(i) v(i)", "q r(f) v(f)", "q r(s) v(s)"},
		"count": {"q r(i) v(?)", "q r(i) v(i)", "q r(i) v(f)", "q r(i) v(s)"},
		"sum":   {"q r(?) v(?)", "q r(i) v(i)", "q r(f) v(f)", "type"},
		"min":   {"q r(?) v(?)", "q r(i) v(i)", "q r(f) v(f)", "q r(s) v(s)"},
		"max":   {"q r(?) v(?)", "q r(i) v(i)", "q r(f) v(f)", "q r(s) v(s)"},
		"mean":  {"q r(f) v(?)", "q r(f) v(i)", "q r(f) v(f)", "type"},
	}
}

// variablesOfFolds are what is told if it is r that has the fact.
func variablesOfFolds() map[string][]string {
	return map[string][]string{
		"":      {"q r(?) v(?)", "q r(i) v(i)", "q r(f) v(f)", "q r(s) v(s)"},
		"count": {"q r(i) v(?)", "q r(i) v(?)", "type", "type"},
		"sum":   {"q r(?) v(?)", "q r(i) v(i)", "q r(f) v(f)", "type"},
		"min":   {"q r(?) v(?)", "q r(i) v(i)", "q r(f) v(f)", "q r(s) v(s)"},
		"max":   {"q r(?) v(?)", "q r(i) v(i)", "q r(f) v(f)", "q r(s) v(s)"},
		"mean":  {"q r(f) v(?)", "type", "q r(f) v(?)", "type"},
	}
}

func TestFolds(t *testing.T) {
	for word, wants := range columnsOfFolds() {
		folded := "X"
		if word != "" {
			folded = word + "(X)"
		}
		for kind, want := range wants {
			check(t, "r("+folded+") :- v(X). "+fact("v", kind)+"?- q.", want)
			check(t, "r("+folded+") :- v(X). "+fact("r", kind)+"?- q.", variablesOfFolds()[word][kind])
			// The other columns of the head are as always.
			with := strings.Replace(want, "r(", "r(s?", 1)
			check(t, "r(b, Y, "+folded+") :- v(X). "+fact("v", kind)+"?- q.", with)
			with = strings.NewReplacer("r(", "r(fi", " v", " u(if) v").Replace(want)
			check(t, "r(Z, Y, "+folded+") :- v(X), u(Y, Z). u(7, #4000000000000000). "+fact("v", kind)+"?- q.", with)
			// So is a column with the variable that is folded.
			with = strings.Replace(want, "r(", "r("+letter(kind), 1)
			check(t, "r(X, "+folded+") :- v(X). "+fact("v", kind)+"?- q.", with)
			// And the columns of a head of another rule, though it has a variable of that name.
			with = strings.NewReplacer("q", "o("+letter(kind)+") q").Replace(want)
			check(t, "r("+folded+") :- v(X). o(X) :- v(X). "+fact("v", kind)+"?- q.", with)
		}
	}
}

func TestFoldsOfVariablesThatNothingDetermines(t *testing.T) {
	for word, want := range map[string]string{"count": "i", "sum": "?", "min": "?", "max": "?", "mean": "f"} {
		check(t, "r("+word+"(X)). ?- q.", "q r("+want+")")
		check(t, "r(X, "+word+"(X)). ?- q.", "q r(?"+want+")")
	}
	// They are numeric for some of them, and so is the column of a sum.
	for text, want := range map[string]string{
		"r(b, X, sum, count(X)). ?- q.":                "q r(s?si)",
		"r(X, count(X)) :- q. ?- r(b, Y).":             "q r(si)",
		"r(X, min(X)) :- q. ?- r(b, Y).":               "q r(ss)",
		"r(X, max(X)) :- q. ?- r(Y, b).":               "q r(ss)",
		"r(X, sum(X)) :- q. ?- r(7, Y).":               "q r(ii)",
		"r(X, sum(X)) :- q. ?- r(b, Y).":               "type",
		"r(X, sum(X)) :- q. ?- r(Y, b).":               "type",
		"r(sum(X)). ?- r(b).":                          "type",
		"r(X, mean(X)) :- q. ?- r(7, Y).":              "q r(if)",
		"r(X, mean(X)) :- q. ?- r(b, Y).":              "type",
		"r(X, mean(X)) :- q. ?- r(Y, 7).":              "type",
		"r(X, mean(X)) :- q. ?- r(Y, Y).":              "q r(ff)",
		"r(X, count(X)) :- q. ?- r(Y, Y).":             "q r(ii)",
		"r(X, count(X)) :- q, X = b. ?- r(Y, Y).":      "type",
		"r(count(X)). r(mean(X)). ?- q.":               "type",
		"r(count(X)). r(sum(X)). ?- q.":                "q r(i)",
		"r(count(X)). r(min(X)) :- v(X). ?- q.":        "q r(i) v(i)",
		"r(mean(X)). r(max(X)) :- v(X). ?- q.":         "q r(f) v(f)",
		"r(sum(X)). r(max(X)) :- v(X). ?- q.":          "q r(?) v(?)",
		"r(sum(X)). r(max(X)) :- v(X). ?- v(b).":       "type",
		"r(mean(X)) :- r(X). ?- q.":                    "q r(f)",
		"r(count(X)) :- r(X). ?- q.":                   "q r(i)",
		"r(sum(X)) :- r(X). ?- q.":                     "q r(?)",
		"r(sum(X)) :- r(X). ?- r(b).":                  "type",
		"r(count(X)) :- v(X), X is Y plus Z. ?- q.":    "q r(i) v(?)",
		"r(count(X)) :- v(X), X is Y plus Z. ?- v(b).": "type",
	} {
		check(t, text, want)
	}
}

// together returns the kind that places with these kinds (0: any) have in common, and whether there is one.
func together(kinds ...int) (int, bool) {
	common := 0
	for _, k := range kinds {
		if k != 0 && common != 0 && k != common {
			return 0, false
		}
		common = max(common, k)
	}
	return common, true
}

func TestCompare(t *testing.T) {
	for _, op := range []string{"<", "<=", "=", "!="} {
		for a, x := range values() {
			for b, y := range values() {
				of := func(want string) string {
					k, ok := together(a, b)
					if !ok {
						return "type"
					}
					return strings.ReplaceAll(want, "@", letter(k))
				}
				check(t, "r(X, Y) :- X "+op+" Y, a(X), b(Y). "+fact("a", a)+fact("b", b)+"?- q.", of("a(@) b(@) q r(@@)"))
				if b > 0 {
					check(t, "r(X) :- X "+op+" "+y+", a(X). "+fact("a", a)+"?- q.", of("a(@) q r(@)"))
					check(t, "r(X) :- "+y+" "+op+" X, a(X). "+fact("a", a)+"?- q.", of("a(@) q r(@)"))
				}
				if a > 0 && b > 0 {
					check(t, "r :- "+x+" "+op+" "+y+". ?- q.", of("q r"))
				}
			}
		}
		check(t, "r(X) :- X "+op+" X. ?- q.", "q r(?)")
		check(t, "r :- b "+op+" c, not "+op+" is, 7 "+op+" -1. ?- q.", "q r")
		check(t, "r :- b "+op+" c, b "+op+" 7. ?- q.", "type")
		// It is no arithmetic, nor has it any to do with the comparisons of other variables.
		check(t, "r(X, Y, Z) :- X "+op+" b, Y "+op+" 7, Z "+op+" W. ?- q.", "q r(si?)")
	}
}

func TestLet(t *testing.T) {
	for _, word := range []string{"plus", "minus", "times"} {
		for a := range values() {
			for b, y := range values() {
				for c, z := range values() {
					checkLet(t, word, [3]int{a, b, c}, y, z)
				}
			}
		}
		check(t, "r(X) :- X is X "+word+" X. ?- q.", "q r(?)")
		check(t, "r(X) :- X is X "+word+" X. ?- r(b).", "type")
		check(t, "r(X, Y) :- X is 7 "+word+" -7, Y is #4000000000000000 "+word+" #0000000000000000. ?- q.", "q r(if)")
		check(t, "r(X) :- X is 7 "+word+" -7, X is #4000000000000000 "+word+" #0000000000000000. ?- q.", "type")
	}
}

// checkLet checks a Let with these kinds of A, B and C (0: any), with values y and z of the kinds of B and C.
func checkLet(t *testing.T, word string, kinds [3]int, y, z string) {
	t.Helper()
	a, b, c := kinds[0], kinds[1], kinds[2]
	of := func(want string, kinds ...int) string {
		k, ok := together(kinds...)
		if !ok || k == api.Sym {
			return "type"
		}
		return strings.ReplaceAll(want, "@", letter(k))
	}
	check(t, "r(X, Y, Z) :- X is Y "+word+" Z, a(X), b(Y), c(Z). "+fact("a", a)+fact("b", b)+fact("c", c)+"?- q.", of("a(@) b(@) c(@) q r(@@@)", a, b, c))
	if b > 0 && a+c < 4 {
		check(t, "r(X, Z) :- X is "+y+" "+word+" Z, a(X), c(Z). "+fact("a", a)+fact("c", c)+"?- q.", of("a(@) c(@) q r(@@)", a, b, c))
	}
	if c > 0 && a+b < 4 {
		check(t, "r(X, Y) :- X is Y "+word+" "+z+", a(X), b(Y). "+fact("a", a)+fact("b", b)+"?- q.", of("a(@) b(@) q r(@@)", a, b, c))
	}
	if b > 0 && c > 0 {
		check(t, "r(X) :- X is "+y+" "+word+" "+z+", a(X). "+fact("a", a)+"?- q.", of("a(@) q r(@)", a, b, c))
		check(t, "r :- X is "+y+" "+word+" "+z+". ?- q.", of("q r", b, c))
	}
}

func TestWalk(t *testing.T) {
	paths := map[string]string{"k": "k", "^k": "k", "(k|k)*/^k": "k", "k/^m": "km", "(m|^k)*/(^j)+|k?": "jkm"}
	for path, names := range paths {
		for a, x := range values() {
			for b, y := range values() {
				for c := range values() {
					checkWalk(t, path, names, [3]int{a, b, c}, x, y)
				}
			}
		}
	}
}

// checkWalk checks a walk along a path with these labels, if the kinds of A, B and the first column of the first label are these (0: any), with values x and y of the kinds of A and B.
func checkWalk(t *testing.T, path, labels string, kinds [3]int, x, y string) {
	t.Helper()
	a, b, c := kinds[0], kinds[1], kinds[2]
	of := func(want string) string {
		k, ok := together(kinds[:]...)
		if !ok {
			return "type"
		}
		for _, s := range labels {
			want += " " + string(s) + "(@@)"
		}
		return strings.ReplaceAll(want+" q", "@", letter(k))
	}
	given := ""
	if c > 0 {
		given = labels[:1] + "(" + values()[c] + ", U). "
	}
	check(t, "g(X, Y) :- walk(X, "+path+", Y), a(X), b(Y). "+fact("a", a)+fact("b", b)+given+"?- q.", of("a(@) b(@) g(@@)"))
	if a > 0 {
		check(t, "g(Y) :- walk("+x+", "+path+", Y), b(Y). "+fact("b", b)+given+"?- q.", of("b(@) g(@)"))
	}
	if b > 0 {
		check(t, "g(X) :- walk(X, "+path+", "+y+"), a(X). "+fact("a", a)+given+"?- q.", of("a(@) g(@)"))
	}
	if a > 0 && b > 0 {
		check(t, "g :- walk("+x+", "+path+", "+y+"). "+given+"?- q.", of("g"))
	}
}

func TestLabelsOfWalks(t *testing.T) {
	for text, want := range map[string]string{
		"g :- walk(X, k, Y). k(7, U). k(U, 7). ?- q.":                       "g k(ii) q",
		"g :- walk(X, k, Y). k(7, U). k(U, b). ?- q.":                       "type",
		"g :- walk(X, ^k, Y). k(7, U). k(U, b). ?- q.":                      "type",
		"g :- k(X, Y). k(7, U). k(U, b). ?- q.":                             "g k(is) q",
		"g :- walk(X, k/m, Y). k(7, U). m(b, U). ?- q.":                     "type",
		"g :- walk(X, k|m, Y). k(7, U). m(U, b). ?- q.":                     "type",
		"g :- walk(X, (k|^m)*, Y). k(U, 7). m(U, b). ?- q.":                 "type",
		"g :- walk(X, k, Y), walk(X, m, Y). k(7, U). ?- q.":                 "g k(ii) m(ii) q",
		"g :- walk(X, k, Y), walk(Y, m, Z). m(7, U). ?- q.":                 "g k(ii) m(ii) q",
		"g :- walk(X, k, Y), walk(Z, m, W). k(7, U). ?- q.":                 "g k(ii) m(??) q",
		"g :- walk(X, k, Y), walk(Z, m, W). k(7, U). m(V, b). ?- q.":        "g k(ii) m(ss) q",
		"g :- walk(X, k, Y). h :- walk(X, m, Y). k(7, U). m(V, b). ?- q.":   "g h k(ii) m(ss) q",
		"g :- walk(X, k, Y). h :- walk(X, k/m, Y). k(7, U). m(V, b). ?- q.": "type",
		"g :- walk(X, k/m, Y). h :- walk(X, m/n, Y). k(7, U). ?- n(V, W).":  "g h k(ii) m(ii) n(ii)",
		"g :- walk(X, k/m, Y). h :- walk(X, m/n, Y). k(7, U). ?- n(V, b).":  "type",
		"g(X, sum(Y)) :- walk(X, k, Y). k(7, U). ?- q.":                     "g(ii) k(ii) q",
		"g(X, sum(Y)) :- walk(X, k, Y). k(b, U). ?- q.":                     "type",
		"g(X, count(Y)) :- walk(X, k, Y). k(b, U). ?- q.":                   "g(si) k(ss) q",
		"g(X) :- walk(X, g1*, Y), Y < #4000000000000000. ?- q.":             "g(f) g1(ff) q",
		"k(X, Y) :- walk(X, k, Y). ?- k(X, b).":                             "k(ss)",
		"k(X, count(Y)) :- walk(X, m, Y). g :- walk(X, k, Y). ?- m(U, V).":  "g k(ii) m(ii)",
		"k(X, count(Y)) :- walk(X, m, Y). g :- walk(X, k, Y). ?- m(U, b).":  "type",
		"k(X, mean(Y)) :- walk(X, m, Y). g :- walk(X, k, 7). ?- q.":         "type",
		"g :- walk(X, k, X). k(b, U). ?- q.":                                "g k(ss) q",
		"g :- walk(b, k, b), walk(7, m, 7), walk(c, k, not). ?- q.":         "g k(ss) m(ii) q",
		"g :- walk(b, k, b), walk(7, m, 7), walk(c, k/m?, not). ?- q.":      "type",
		"g :- walk(X, k, Y), Z is X plus Y. ?- k(U, V).":                    "g k(??)",
		"g :- walk(X, k, Y), Z is X plus W. ?- k(b, V).":                    "type",
		"g :- walk(X, k, Y), Z is W plus Y. ?- k(U, 7).":                    "g k(ii)",
	} {
		check(t, text, want)
	}
}

func TestNumericPlaces(t *testing.T) {
	for text, want := range map[string]string{
		"p(X) :- X is Y plus Z. ?- p(W).":                                               "p(?)",
		"p(X) :- X is Y plus Z. ?- p(7).":                                               "p(i)",
		"p(X) :- X is Y plus Z. ?- p(#4000000000000000).":                               "p(f)",
		"p(X) :- X is Y plus Z. ?- p(b).":                                               "type",
		"p(Y) :- X is Y plus Z. ?- p(b).":                                               "type",
		"p(Z) :- X is Y plus Z. ?- p(b).":                                               "type",
		"p(W) :- X is Y plus Z. ?- p(b).":                                               "p(s)",
		"p(X) :- X is Y plus Z, Y != W, V <= W, V = b. ?- p(X).":                        "type",
		"p(X) :- X is Y plus Z, Y != W, V <= W, V = 7. ?- p(X).":                        "p(i)",
		"p(sum(X)) :- a(X). b(X) :- a(X). c(X) :- b(X). c(b). ?- q.":                    "type",
		"p(sum(X)) :- a(X). b(X) :- a(X). c(X) :- b(X). c(7). ?- q.":                    "a(i) b(i) c(i) p(i) q",
		"p(mean(X)) :- a(X). b(X) :- a(X). c(X) :- b(X). c(b). ?- q.":                   "type",
		"p(mean(X)) :- a(X). b(X) :- a(X). c(X) :- b(X). c(7). ?- q.":                   "a(i) b(i) c(i) p(f) q",
		"p(sum(X)) :- a(X). b(X) :- p(X). c(X) :- b(X). c(b). ?- q.":                    "type",
		"p(mean(X)) :- a(X). b(X) :- p(X). c(X) :- b(X). c(b). ?- q.":                   "type",
		"p(count(X)) :- a(X). b(X) :- p(X). c(X) :- b(X). c(b). ?- q.":                  "type",
		"p(max(X)) :- a(X). b(X) :- p(X). c(X) :- b(X). c(b). ?- q.":                    "a(s) b(s) c(s) p(s) q",
		"p(X) :- X is Y plus Y, walk(Y, k, Z). ?- k(U, b).":                             "type",
		"p(X) :- X is Y plus Y, walk(Z, k/m, Y), n(Z). ?- n(b).":                        "type",
		"p(X) :- Z is Y plus Y, r(Z, X). ?- r(U, b).":                                   "p(s) r(?s)",
		"p(X) :- X is Y plus Y. p(min(X)) :- a(X). a(max(X)) :- b(X). ?- b(b).":         "type",
		"p(X) :- X is Y plus Y. p(min(X)) :- a(X). a(count(X)) :- b(X). ?- b(b).":       "a(i) b(s) p(i)",
		"p(X) :- X is 1 plus 2, a(X). b(Y) :- Y is Z times Z, Z < X, a(X). ?- q.":       "a(i) b(i) p(i) q",
		"p(X) :- X is Y plus Z, a(Y), b(Z). a(7). b(#4000000000000000). ?- q.":          "type",
		"p(X) :- X is Y plus Z, W is Z minus V. a(V) :- b(V), V is V times 7. ?- p(b).": "type",
		"p(sum(X)) :- a(X). r(sum(X)) :- p(X). ?- a(#4000000000000000).":                "a(f) p(f) r(f)",
		"p(sum(X)) :- a(X). r(mean(X)) :- p(X). s(count(X)) :- r(X). ?- a(7).":          "a(i) p(i) r(f) s(i)",
	} {
		check(t, text, want)
	}
	// One that is a symbol only through many other places, and rules.
	for _, n := range []int{1, 5, 100} {
		text := "p0(X) :- X is Y plus Z. "
		for i := range n {
			text += fmt.Sprintf("p%d(X) :- p%d(Y), Y <= X. ", i+1, i)
		}
		for kind, value := range values() {
			want := api.OK
			if kind == api.Sym {
				want = api.ErrType
			}
			if kind > 0 {
				if l, e := Kinds(program(t, fmt.Sprintf("%s?- p%d(%s).", text, n, value))); e != want || (e == api.OK) != (len(l) == n+1) {
					t.Errorf("%d places on, %q: %v, error %d", n, value, l, e)
				}
			}
		}
	}
}

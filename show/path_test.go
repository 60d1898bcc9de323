package show

import (
	"slices"
	"strings"
	"testing"

	"antecedent/api"
	"antecedent/parse"
)

func TestPaths(t *testing.T) {
	for l, want := range map[string]string{
		"a": "a", "A": "^a", "ab/": "a/b", "ab|": "a|b", "a*": "a*", "a+": "a+", "a?": "a?",
		// As the left and the right operand of /.
		"Ab/": "^a/b", "aB/": "a/^b", "AB/": "^a/^b",
		"ab/c/": "a/b/c", "abc//": "a/(b/c)", "ab/cd//": "a/b/(c/d)", "abcd///": "a/(b/(c/d))", "abc//d/": "a/(b/c)/d",
		"ab|c/": "(a|b)/c", "abc|/": "a/(b|c)", "ab|cd|/": "(a|b)/(c|d)",
		"a*b/": "a*/b", "ab*/": "a/b*", "a+b/": "a+/b", "ab+/": "a/b+", "a?b/": "a?/b", "ab?/": "a/b?",
		"ab/*c/": "(a/b)*/c", "abc/*/": "a/(b/c)*", "ab|+c/": "(a|b)+/c", "abc|?/": "a/(b|c)?",
		// As the left and the right operand of |.
		"Ab|": "^a|b", "aB|": "a|^b", "AB|": "^a|^b",
		"ab|c|": "a|b|c", "abc||": "a|(b|c)", "ab|cd||": "a|b|(c|d)", "abcd|||": "a|(b|(c|d))", "abc||d|": "a|(b|c)|d",
		"ab/c|": "a/b|c", "abc/|": "a|b/c", "ab/cd/|": "a/b|c/d", "abc//d|": "a/(b/c)|d", "abcd//|": "a|b/(c/d)",
		"a*b|": "a*|b", "ab*|": "a|b*", "a+b|": "a+|b", "ab+|": "a|b+", "a?b|": "a?|b", "ab?|": "a|b?",
		"ab/*c|": "(a/b)*|c", "abc/*|": "a|(b/c)*", "ab|+c|": "(a|b)+|c", "abc|?|": "a|(b|c)?",
		// As the operand of *, + and ?.
		"A*": "^a*", "A+": "^a+", "A?": "^a?", "a**": "a**", "a*+": "a*+", "a*?": "a*?", "a+*": "a+*", "a++": "a++", "a+?": "a+?", "a?*": "a?*", "a?+": "a?+", "a??": "a??", "A?+**": "^a?+**",
		"ab/*": "(a/b)*", "ab/+": "(a/b)+", "ab/?": "(a/b)?", "ab|*": "(a|b)*", "ab|+": "(a|b)+", "ab|?": "(a|b)?",
		"ab/*+?": "(a/b)*+?", "ab|??*": "(a|b)??*", "ab/c/*": "(a/b/c)*", "abc//*": "(a/(b/c))*", "ab/c|*": "(a/b|c)*", "abc|/+": "(a/(b|c))+",
		// Several of these.
		"aB|*c/": "(a|^b)*/c", "aB*/": "a/^b*", "ab|c/d|e*/": "((a|b)/c|d)/e*", "ab/c|d/*E|": "((a/b|c)/d)*|^e", "abc|*d//+": "(a/((b|c)*/d))+",
	} {
		checkPath(t, steps(l), want)
	}
}

// Parentheses by the chapter's list, for each step as each operand of each other one.
func TestEachStepInEachOther(t *testing.T) {
	operands := map[string]string{"a": "a", "A": "^a", "ab/": "a/b", "ab|": "a|b", "a*": "a*", "a+": "a+", "a?": "a?", "ab/*": "(a/b)*", "ab|?": "(a|b)?"}
	enclosed := func(l string, kinds string) string {
		if strings.Contains(kinds, l[len(l)-1:]) {
			return "(" + operands[l] + ")"
		}
		return operands[l]
	}
	for l := range operands {
		for m := range operands {
			checkPath(t, steps(l+m+"/"), enclosed(l, "|")+"/"+enclosed(m, "|/"))
			checkPath(t, steps(l+m+"|"), enclosed(l, "")+"|"+enclosed(m, "|"))
		}
		for _, mark := range []string{"*", "+", "?"} {
			checkPath(t, steps(l+mark), enclosed(l, "|/")+mark)
			checkPath(t, steps(l+mark+"?+*"), enclosed(l, "|/")+mark+"?+*")
		}
	}
}

func TestNoPaths(t *testing.T) {
	for _, l := range []string{
		"", "*", "+", "?", "/", "|", "**", "/*", "a/", "a|", "/a", "|a", "*a", "a*/", "a/b", "a|b", "*ab/", "/ab/", "a/b/", "a|b|", "a+|b", "ab//", "ab||", "ab/|", "ab|/*", "ab/c//", "a?*|",
		"ab", "aB", "abc/", "abc|", "ab*", "ab/c", "ab|c", "ab/cd/", "ab*c|", "abcd//", "a*b*", strings.Repeat("a", api.MaxSteps), strings.Repeat("/", api.MaxSteps), strings.Repeat("ab/", 33),
	} {
		checkPath(t, steps(l), "")
	}
	checkPath(t, []api.Step{}, "")
	checkPath(t, []api.Step{{}}, "")
}

// In each place of a path, there is another kind, or another label.
func TestKindsAndLabelsOfSteps(t *testing.T) {
	long := strings.Repeat("z", api.MaxName)
	good := []string{"b", "z9", "a_", "nots", "walk_", long}
	bad := append(keywords(), "", "A", "X", "_a", "1", "a b", " a", "a ", "a/b", "a*", "^a", "(a)", "a.", "é", "a\x00", long+"z", strings.Repeat("z", 100000))
	paths := []string{"a", "A", "a*", "A+", "ab/", "ab|", "ab?/", "aB|*", "ab|c/"}
	for _, p := range paths {
		l := steps(p)
		for i := range l {
			put := func(s api.Step) []api.Step {
				m := slices.Clone(l)
				m[i] = s
				return m
			}
			for _, kind := range append(otherKinds(), 0) {
				checkPath(t, put(api.Step{Kind: kind}), "")
				checkPath(t, put(api.Step{Kind: kind, Label: "a"}), "")
			}
			for _, s := range slices.Concat(good, bad) {
				if l[i].Label == "" {
					if s != "" {
						checkPath(t, put(api.Step{Kind: l[i].Kind, Label: s}), "")
					}
					continue
				}
				want := ""
				if slices.Contains(good, s) {
					want = strings.Replace(Path(l), l[i].Label, s, 1)
				}
				checkPath(t, put(api.Step{Kind: l[i].Kind, Label: s}), want)
			}
		}
	}
}

func TestAsManyStepsAsMayBe(t *testing.T) {
	const most = api.MaxSteps
	for _, n := range []int{most - 2, most} {
		checkPath(t, steps("a"+strings.Repeat("*", n-1)), "a"+strings.Repeat("*", n-1))
		checkPath(t, steps("a"+strings.Repeat("b/", n/2-1)+"+"), "(a"+strings.Repeat("/b", n/2-1)+")+")
		checkPath(t, steps("A"+strings.Repeat("B|", n/2-1)+"?"), "(^a"+strings.Repeat("|^b", n/2-1)+")?")
		checkPath(t, steps("a"+strings.Repeat("b/", n/2-2)+"c?|"), "a"+strings.Repeat("/b", n/2-2)+"|c?")
	}
	for _, n := range []int{most - 1, most + 1, most + 3, 10*most + 1} {
		plus, then, or := "a"+strings.Repeat("+", n-1), "a"+strings.Repeat("/b", n/2), "a"+strings.Repeat("|b", n/2)
		if n > most {
			plus, then, or = "", "", ""
		}
		checkPath(t, steps("a"+strings.Repeat("+", n-1)), plus)
		checkPath(t, steps("a"+strings.Repeat("b/", n/2)), then)
		checkPath(t, steps("a"+strings.Repeat("b|", n/2)), or)
	}
	checkPath(t, steps("a"+strings.Repeat("*", most)), "")
	if RightPath(steps("a" + strings.Repeat("*", 1<<20))) {
		t.Error("a path of a million steps is valid")
	}
}

// chain returns the steps of a sequence, or of alternatives, in n pairs of parentheses, each within the one before: a/(a/(a/a)) for 2.
func chain(n int, mark string) string {
	return strings.Repeat("a", n+2) + strings.Repeat(mark, n+1)
}

// chainText returns the text of a chain.
func chainText(n int, mark string) string {
	return strings.Repeat("a"+mark+"(", n) + "a" + mark + "a" + strings.Repeat(")", n)
}

func TestAsManyOpenAsMayBe(t *testing.T) {
	for _, n := range []int{1, 2, api.MaxDepth - 1, api.MaxDepth, api.MaxDepth + 1} {
		for l, want := range map[string]string{
			chain(n, "/"):                                chainText(n, "/"),
			chain(n, "|"):                                chainText(n, "|"),
			"b" + chain(n-1, "/") + "/":                  "b/(" + chainText(n-1, "/") + ")",
			"b" + chain(n, "/") + "|":                    "b|" + chainText(n, "/"),
			chain(n-1, "|") + "b/":                       "(" + chainText(n-1, "|") + ")/b",
			chain(n-1, "/") + "?":                        "(" + chainText(n-1, "/") + ")?",
			"ab/" + strings.Repeat("*c/", n-1) + "+":     strings.Repeat("(", n) + "a/b" + strings.Repeat(")*/c", n-1) + ")+",
			"ab|" + strings.Repeat("?c|", n-1) + "?":     strings.Repeat("(", n) + "a|b" + strings.Repeat(")?|c", n-1) + ")?",
			"Ab/" + strings.Repeat("+C|", n-1) + "*":     strings.Repeat("(", n) + "^a/b" + strings.Repeat(")+|^c", n-1) + ")*",
			chain(n, "/") + "b*/":                        chainText(n, "/") + "/b*",
			chain(n, "|") + "b|c|":                       chainText(n, "|") + "|b|c",
			chain(min(n, 13), "/") + chain(n, "/") + "|": chainText(min(n, 13), "/") + "|" + chainText(n, "/"),
		} {
			if len(l) > api.MaxSteps {
				t.Fatalf("%s has too many steps", l)
			}
			if n > api.MaxDepth {
				want = ""
			}
			checkPath(t, steps(l), want)
		}
	}
}

// There may be more ( in all than may be open at the same time.
func TestMoreParenthesesThanMayBeOpen(t *testing.T) {
	for mark, other := range map[string]string{"/": "|", "|": "/"} {
		l := steps(chain(23, mark) + chain(22, mark) + other)
		if mark == "/" {
			checkPath(t, l, chainText(23, mark)+other+chainText(22, mark))
		} else {
			checkPath(t, l, "("+chainText(23, mark)+")"+other+"("+chainText(22, mark)+")")
		}
	}
	checkPath(t, steps("ab|"+strings.Repeat("ab|/", 24)), "(a|b)"+strings.Repeat("/(a|b)", 24))
	checkPath(t, steps("ab/*"+strings.Repeat("c|", 48)), "(a/b)*"+strings.Repeat("|c", 48))
}

// The parentheses of a walk are none of its path.
func TestOnlyThePathCounts(t *testing.T) {
	p := api.Program{Query: atom("q")}
	walk := api.Literal{Kind: api.Walk, A: named("X"), Path: steps(chain(api.MaxDepth, "/")), B: named("Y")}
	p.Rules = []api.Rule{body(walk, walk), body(walk)}
	s := "walk(X, " + chainText(api.MaxDepth, "/") + ", Y)"
	checkProgram(t, p, "p :- "+s+", "+s+".\np :- "+s+".\n?- q.\n")
}

// enclosures returns where the parentheses of a path open and close.
func enclosures(text string) [][2]int {
	var all [][2]int
	var open []int
	for i, c := range text {
		switch c {
		case '(':
			open = append(open, i)
		case ')':
			all = append(all, [2]int{open[len(open)-1], i})
			open = open[:len(open)-1]
		}
	}
	return all
}

// checkFewest checks that no pair of parentheses can be left out of the text of l.
func checkFewest(t *testing.T, l []api.Step, text string) {
	t.Helper()
	for _, e := range enclosures(text) {
		less := text[:e[0]] + text[e[0]+1:e[1]] + text[e[1]+1:]
		if m, _, e := parse.Path(less); e == api.OK && slices.Equal(l, m) {
			t.Fatalf("%q has more parentheses than %q", text, less)
		}
	}
}

// complete reports whether the steps of s are a complete expression: then, from the last one on, there is always something that lacks an operand, until the first one.
func complete(s string) bool {
	lacking := 1
	for i := len(s) - 1; i >= 0; i-- {
		if lacking == 0 {
			return false
		}
		switch s[i] {
		case '/', '|':
			lacking++
		case '*', '+', '?':
		default:
			lacking--
		}
	}
	return lacking == 0
}

// All sequences of few steps.
func TestAllShortPaths(t *testing.T) {
	for alphabet, most := range map[string]int{"aB/|*": 7, "a/|+": 8, "a/|*+?": 6, "a/|": 9} {
		valid := 0
		level := []string{""}
		for range most {
			var next []string
			for _, s := range level {
				for _, c := range alphabet {
					next = append(next, s+string(c))
				}
			}
			level = next
			for _, s := range level {
				l := steps(s)
				text := Path(l)
				if (text != "") != complete(s) || RightPath(l) != complete(s) {
					t.Fatalf("Path of %s is %q", s, text)
				}
				if text == "" {
					continue
				}
				valid++
				if m, _, e := parse.Path(text); e != api.OK || !slices.Equal(l, m) {
					t.Fatalf("the path %s is parsed from %q as %v, %d", s, text, m, e)
				}
				checkFewest(t, l, text)
				// The steps alone make all of the text but its parentheses.
				if n := len(text) - 2*strings.Count(text, "("); n != len(s)+strings.Count(s, "B") {
					t.Fatalf("the path %s is %q", s, text)
				}
			}
		}
		if valid < 100 {
			t.Errorf("only %d paths of %s are valid", valid, alphabet)
		}
	}
}

package show

import (
	"math"
	"slices"
	"strings"
	"testing"

	"antecedent/api"
)

// goodLiterals are valid literals of all kinds, by their texts.
func goodLiterals() map[string]api.Literal {
	x, y := named("X"), named("Y")
	good := map[string]api.Literal{
		"r":             {Kind: api.Holds, Atom: atom("r")},
		"r(X)":          {Kind: api.Holds, Atom: atom("r", x)},
		"r(a, Y, -1)":   {Kind: api.Holds, Atom: atom("r", sym("a"), y, num(-1))},
		"not r":         {Kind: api.Fails, Atom: atom("r")},
		"not nots(not)": {Kind: api.Fails, Atom: atom("nots", sym("not"))},
		"not r(X, Y)":   {Kind: api.Fails, Atom: atom("r", x, y)},
		"walk(X, a, Y)": {Kind: api.Walk, A: x, Path: steps("a"), B: y},
		"walk(walk, (a|^b)*/c, #0000000000000000)": {Kind: api.Walk, A: sym("walk"), Path: steps("aB|*c/"), B: floating(0)},
		"walk(3, ^a?, 3)":                          {Kind: api.Walk, A: num(3), Path: steps("A?"), B: num(3)},
	}
	for _, op := range []string{"<", "<=", "=", "!="} {
		good["X "+op+" Y"] = api.Literal{Kind: api.Compare, A: x, Op: op, B: y}
		good["-1 "+op+" -2"] = api.Literal{Kind: api.Compare, A: num(-1), Op: op, B: num(-2)}
		good["not "+op+" is"] = api.Literal{Kind: api.Compare, A: sym("not"), Op: op, B: sym("is")}
		good["walk "+op+" r"] = api.Literal{Kind: api.Compare, A: sym("walk"), Op: op, B: sym("r")}
	}
	for word, op := range map[string]string{"plus": "+", "minus": "-", "times": "*"} {
		good["X is Y "+word+" 1"] = api.Literal{Kind: api.Let, A: x, B: y, Op: op, C: num(1)}
		good["X is -1 "+word+" -2"] = api.Literal{Kind: api.Let, A: x, B: num(-1), Op: op, C: num(-2)}
		good["Y is is "+word+" "+word] = api.Literal{Kind: api.Let, A: y, B: sym("is"), Op: op, C: sym(word)}
	}
	return good
}

func TestLiterals(t *testing.T) {
	for s, l := range goodLiterals() {
		checkLiteral(t, l, s)
		// Empty slices are as nil ones.
		if l.Atom.Args == nil {
			l.Atom.Args = []api.Term{}
		}
		if l.Path == nil {
			l.Path = []api.Step{}
		}
		checkLiteral(t, l, s)
	}
}

// field is a part of a literal: which kinds use it, how it becomes zero, and ways in which it becomes something else.
type field struct {
	used []int
	zero func(*api.Literal)
	set  []func(*api.Literal)
}

// termField is a field that is a term.
func termField(of func(*api.Literal) *api.Term, used ...int) field {
	f := field{used: used, zero: func(l *api.Literal) { *of(l) = api.Term{} }}
	for _, u := range []api.Term{
		named("X"), named("x"), num(0), num(3), floating(0), sym("a"), {Val: api.Value{N: 1}}, {Val: api.Value{S: "a"}}, {Val: api.Value{Kind: 9}}, {Var: "X", Val: num(1).Val},
	} {
		f.set = append(f.set, func(l *api.Literal) { *of(l) = u })
	}
	return f
}

// otherField is a field that is none, which put sets.
func otherField[T any](put func(*api.Literal, T), none T, some []T, used ...int) field {
	f := field{used: used, zero: func(l *api.Literal) { put(l, none) }}
	for _, x := range some {
		f.set = append(f.set, func(l *api.Literal) { put(l, x) })
	}
	return f
}

// fields are all parts of a literal but its kind.
func fields() map[string]field {
	return map[string]field{
		"Atom": otherField(func(l *api.Literal, a api.Atom) { l.Atom = a }, api.Atom{},
			[]api.Atom{atom("r"), atom("r", named("X")), atom("not"), atom("", named("X")), atom("", api.Term{})}, api.Holds, api.Fails),
		"Op": otherField(func(l *api.Literal, op string) { l.Op = op }, "", []string{"<", "=", "+", "*", " "}, api.Compare, api.Let),
		"A":  termField(func(l *api.Literal) *api.Term { return &l.A }, api.Compare, api.Let, api.Walk),
		"B":  termField(func(l *api.Literal) *api.Term { return &l.B }, api.Compare, api.Let, api.Walk),
		"C":  termField(func(l *api.Literal) *api.Term { return &l.C }, api.Let),
		"Path": otherField(func(l *api.Literal, path []api.Step) { l.Path = path }, nil,
			[][]api.Step{steps("a"), steps("ab/"), steps("*"), {{}}}, api.Walk),
	}
}

// Each field that a kind uses is needed, and each other one must be zero.
func TestEachFieldOfALiteral(t *testing.T) {
	for s, good := range goodLiterals() {
		for name, f := range fields() {
			l := good
			if slices.Contains(f.used, good.Kind) {
				f.zero(&l)
				checkLiteral(t, l, "")
				continue
			}
			for i, set := range f.set {
				l := good
				set(&l)
				checkLiteral(t, l, "")
				if t.Failed() {
					t.Fatalf("%s is valid with the setting %d of %s", s, i, name)
				}
			}
		}
	}
}

// A literal of one kind is none of another one with the same fields, but for those that use the same ones.
func TestKindsOfLiterals(t *testing.T) {
	for s, l := range goodLiterals() {
		good := l.Kind
		for _, kind := range append(otherKinds(), 0, api.Holds, api.Fails, api.Compare, api.Let, api.Walk, api.Walk+1) {
			l.Kind = kind
			switch {
			case kind == good:
				checkLiteral(t, l, s)
			case good == api.Holds && kind == api.Fails:
				checkLiteral(t, l, "not "+s)
			case good == api.Fails && kind == api.Holds:
				checkLiteral(t, l, strings.TrimPrefix(s, "not "))
			default:
				checkLiteral(t, l, "")
			}
		}
	}
	for _, kind := range append(otherKinds(), 0, api.Holds, api.Fails, api.Compare, api.Let, api.Walk, api.Walk+1) {
		checkLiteral(t, api.Literal{Kind: kind}, "")
	}
}

func TestOps(t *testing.T) {
	x, y, one := named("X"), named("Y"), num(1)
	compare := map[string]string{"<": "X < Y", "<=": "X <= Y", "=": "X = Y", "!=": "X != Y"}
	let := map[string]string{"+": "X is Y plus 1", "-": "X is Y minus 1", "*": "X is Y times 1"}
	others := []string{
		"", " ", ">", ">=", "=>", "==", "=<", "<>", "!", "≤", ":=", ":-", "?-", "is", "plus", "minus", "times", "not", "/", "|", "?", "^", ".", ",", "++", "--", "**", "+-",
		" <", "< ", " < ", "<\n", "< =", "<==", "! =", " +", "+ ", "+\x00", "Plus", "PLUS", strings.Repeat("<", 100000), strings.Repeat("+", 100000),
	}
	for _, op := range append(others, "<", "<=", "=", "!=", "+", "-", "*") {
		checkLiteral(t, api.Literal{Kind: api.Compare, A: x, Op: op, B: y}, compare[op])
		checkLiteral(t, api.Literal{Kind: api.Let, A: x, B: y, Op: op, C: one}, let[op])
	}
}

// Only a variable is set by a Let.
func TestWhatALetSets(t *testing.T) {
	for _, u := range []api.Term{num(0), num(3), num(math.MinInt64), floating(0), sym("a"), sym("is"), {}, {Var: "X", Val: num(3).Val}, named("x"), named("is")} {
		for _, op := range []string{"+", "-", "*"} {
			checkLiteral(t, api.Literal{Kind: api.Let, A: u, B: named("Y"), Op: op, C: num(1)}, "")
		}
	}
}

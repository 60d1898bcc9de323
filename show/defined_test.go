package show

import (
	"fmt"
	"math/rand"
	"regexp"
	"slices"
	"strings"
	"testing"

	"antecedent/api"
	"antecedent/flo"
	"antecedent/lex"
	"antecedent/parse"
)

// The chapter's words once more, in another way: paths are trees that are read from their last step on, names and literals are told by regular expressions, and what is valid is decided apart from the texts.

var (
	nameForm      = regexp.MustCompile(`\A[a-z][a-z0-9_]{0,39}\z`)
	variableForm  = regexp.MustCompile(`\A[A-Z][A-Za-z0-9_]{0,39}\z`)
	keywordForm   = regexp.MustCompile(`\A(not|is|plus|minus|times|walk|count|sum|min|max|mean)\z`)
	compareForm   = regexp.MustCompile(`\A(<|<=|=|!=)\z`)
	operationForm = regexp.MustCompile(`\A[-+*]\z`)
)

func rightPredicate(s string) bool { return nameForm.MatchString(s) && !keywordForm.MatchString(s) }

func isVariable(u api.Term) bool { return variableForm.MatchString(u.Var) && u.Val == (api.Value{}) }

func rightTerm(u api.Term) bool {
	if u.Var != "" {
		return isVariable(u)
	}
	switch v := u.Val; v.Kind {
	case api.Int:
		return v.S == ""
	case api.Flo:
		return v.S == "" && flo.Right(v.N)
	case api.Sym:
		return v.N == 0 && nameForm.MatchString(v.S)
	}
	return false
}

func rightAtom(a api.Atom) bool {
	return rightPredicate(a.Pred) && len(a.Args) <= 8 && !slices.ContainsFunc(a.Args, func(u api.Term) bool { return !rightTerm(u) })
}

// tree is a path with its operands.
type tree struct {
	step api.Step
	of   []tree
}

// grow returns the tree that ends with the last of the steps, those ahead of it, and whether there is one.
func grow(l []api.Step) (tree, []api.Step, bool) {
	if len(l) == 0 {
		return tree{}, nil, false
	}
	last, rest, size := l[len(l)-1], l[:len(l)-1], 0
	switch last.Kind {
	case api.Along, api.Back:
	case api.Star, api.Plus, api.Maybe:
		size = 1
	case api.Then, api.Or:
		size = 2
	default:
		return tree{}, nil, false
	}
	if labelled := size == 0; labelled && !rightPredicate(last.Label) || !labelled && last.Label != "" {
		return tree{}, nil, false
	}
	x := tree{step: last}
	for range size {
		y, before, ok := grow(rest)
		if !ok {
			return tree{}, nil, false
		}
		x.of, rest = slices.Insert(x.of, 0, y), before
	}
	return x, rest, true
}

// encloses reports whether the operand with that number needs parentheses, by the chapter's list.
func (x tree) encloses(operand int) bool {
	inner := x.of[operand].step.Kind
	switch x.step.Kind {
	case api.Then:
		return inner == api.Or || operand == 1 && inner == api.Then
	case api.Or:
		return operand == 1 && inner == api.Or
	}
	return inner == api.Or || inner == api.Then
}

// depth is how many parentheses are open at the same time.
func (x tree) depth() int {
	most := 0
	for i, y := range x.of {
		d := y.depth()
		if x.encloses(i) {
			d++
		}
		most = max(most, d)
	}
	return most
}

// text writes a tree with the parentheses that it needs, and those that more asks for.
func (x tree) text(more func() bool) string {
	var of []string
	for i, y := range x.of {
		s := y.text(more)
		if x.encloses(i) || more() {
			s = "(" + s + ")"
		}
		of = append(of, s)
	}
	switch x.step.Kind {
	case api.Along:
		return x.step.Label
	case api.Back:
		return "^" + x.step.Label
	case api.Then, api.Or:
		return strings.Join(of, map[int]string{api.Then: "/", api.Or: "|"}[x.step.Kind])
	}
	return of[0] + map[int]string{api.Star: "*", api.Plus: "+", api.Maybe: "?"}[x.step.Kind]
}

func never() bool { return false }

func rightPath(l []api.Step) bool {
	x, rest, ok := grow(l)
	return ok && len(rest) == 0 && len(l) <= 100 && x.depth() <= 32
}

// pathText writes a valid path.
func pathText(l []api.Step, more func() bool) string {
	x, _, _ := grow(l)
	return x.text(more)
}

func rightLiteral(l api.Literal) bool {
	if l.Kind == api.Holds || l.Kind == api.Fails {
		return rightAtom(l.Atom) && told(l) == told(api.Literal{Kind: l.Kind, Atom: l.Atom})
	}
	switch {
	case !rightTerm(l.A) || !rightTerm(l.B) || told(l.Atom) != told(api.Atom{}):
		return false
	case l.Kind == api.Compare:
		return compareForm.MatchString(l.Op) && l.C == (api.Term{}) && len(l.Path) == 0
	case l.Kind == api.Let:
		return operationForm.MatchString(l.Op) && isVariable(l.A) && rightTerm(l.C) && len(l.Path) == 0
	}
	return l.Kind == api.Walk && l.Op == "" && l.C == (api.Term{}) && rightPath(l.Path)
}

func rightRule(x api.Rule) bool {
	n := len(x.Head.Args)
	fold := x.Fold == 0 || 0 < x.Fold && x.Fold < 6 && n > 0 && isVariable(x.Head.Args[n-1])
	return rightAtom(x.Head) && fold && len(x.Body) <= 12 && !slices.ContainsFunc(x.Body, func(l api.Literal) bool { return !rightLiteral(l) })
}

func termText(u api.Term) string {
	switch u.Val.Kind {
	case api.Int:
		return fmt.Sprint(u.Val.N)
	case api.Flo:
		return fmt.Sprintf("#%016x", uint64(u.Val.N))
	}
	return u.Var + u.Val.S
}

func headText(a api.Atom, fold int) string {
	var args []string
	for _, u := range a.Args {
		args = append(args, termText(u))
	}
	if len(args) == 0 {
		return a.Pred
	}
	if fold > 0 {
		args[len(args)-1] = foldWords()[fold] + "(" + args[len(args)-1] + ")"
	}
	return a.Pred + "(" + strings.Join(args, ", ") + ")"
}

// ruleText writes a valid rule, with further parentheses in its walks where more asks for them.
func ruleText(x api.Rule, more func() bool) string {
	var literals []string
	for _, l := range x.Body {
		a, b, c := termText(l.A), termText(l.B), termText(l.C)
		switch l.Kind {
		case api.Holds:
			literals = append(literals, headText(l.Atom, 0))
		case api.Fails:
			literals = append(literals, "not "+headText(l.Atom, 0))
		case api.Compare:
			literals = append(literals, fmt.Sprintf("%s %s %s", a, l.Op, b))
		case api.Let:
			literals = append(literals, fmt.Sprintf("%s is %s %s %s", a, b, map[string]string{"+": "plus", "-": "minus", "*": "times"}[l.Op], c))
		case api.Walk:
			literals = append(literals, fmt.Sprintf("walk(%s, %s, %s)", a, pathText(l.Path, more), b))
		}
	}
	if len(literals) == 0 {
		return headText(x.Head, x.Fold) + "."
	}
	return headText(x.Head, x.Fold) + " :- " + strings.Join(literals, ", ") + "."
}

func programText(p api.Program, more func() bool) string {
	var text strings.Builder
	for _, x := range p.Rules {
		text.WriteString(ruleText(x, more) + "\n")
	}
	return text.String() + "?- " + headText(p.Query, 0) + ".\n"
}

func rightProgram(p api.Program) bool {
	return len(p.Rules) <= 200 && rightAtom(p.Query) && !slices.ContainsFunc(p.Rules, func(x api.Rule) bool { return !rightRule(x) }) && len(programText(p, never)) <= 20000
}

// maker makes programs at random. One of its choices in so many as faults says is that of something that is not valid; none is if faults is 0.
type maker struct {
	*rand.Rand
	faults   int
	badTerms []api.Term
	badNames []string
}

func newMaker(seed int64, faults int) maker {
	return maker{rand.New(rand.NewSource(seed)), faults, invalidTerms(), append(keywords(), "", "A", "_a", "1", "a b", strings.Repeat("z", 41))}
}

func (m maker) fault() bool { return m.faults > 0 && m.Intn(m.faults) == 0 }

// pick returns one of the good choices, or of the bad ones.
func pick[T any](m maker, good, bad []T) T {
	if m.fault() {
		good = bad
	}
	return good[m.Intn(len(good))]
}

// some returns up to most items, or one more.
func some[T any](m maker, most int, item func() T) []T {
	n := m.Intn(most + 1)
	if m.fault() {
		n = most + 1
	}
	var items []T
	for range n {
		items = append(items, item())
	}
	return items
}

func (m maker) predicate() string {
	return pick(m, []string{"a", "b", "p", "q_1", "nots", "walks", strings.Repeat("z", 40)}, m.badNames)
}

func (m maker) variable() api.Term {
	return pick(m, []api.Term{named("X"), named("Y"), named("Is_1"), named(strings.Repeat("Q", 40))}, m.badTerms)
}

func (m maker) term() api.Term {
	switch m.Intn(4) {
	case 0:
		return num(m.Int63() - m.Int63())
	case 1:
		return floating(m.Int63n(1 << 62))
	case 2:
		return pick(m, []api.Term{sym("a"), sym("b_2"), sym("not"), sym("is"), sym("count"), sym("plus")}, m.badTerms)
	}
	return m.variable()
}

func (m maker) atom() api.Atom {
	return api.Atom{Pred: m.predicate(), Args: some(m, api.MaxArity, m.term)}
}

// path returns steps that are joined at random, one time in some with the wrong number of operands.
func (m maker) path() []api.Step {
	var l []api.Step
	left, operands := 1+m.Intn(20), 0
	for left > 0 || operands > 1 {
		switch kind := m.Intn(8); {
		case left > 0 && kind < 3 || operands == 0:
			l = append(l, api.Step{Kind: pick(m, []int{api.Along, api.Back}, otherKinds()), Label: m.predicate()})
			left, operands = left-1, operands+1
		case kind < 6 && operands > 1:
			l = append(l, api.Step{Kind: pick(m, []int{api.Then, api.Or}, otherKinds())})
			operands--
		default:
			l = append(l, api.Step{Kind: pick(m, []int{api.Star, api.Plus, api.Maybe}, []int{api.Then, api.Along, 0}), Label: pick(m, []string{""}, []string{"a", "*"})})
		}
	}
	if m.fault() {
		i := m.Intn(len(l))
		l = slices.Delete(l, i, i+1)
	}
	return l
}

func (m maker) literal() api.Literal {
	l := api.Literal{Kind: pick(m, []int{api.Holds, api.Fails, api.Compare, api.Let, api.Walk}, append(otherKinds(), 0, api.Walk+1))}
	switch {
	case l.Kind == api.Holds || l.Kind == api.Fails:
		l.Atom = m.atom()
	case l.Kind == api.Compare:
		l.A, l.Op, l.B = m.term(), pick(m, []string{"<", "<=", "=", "!="}, []string{"", "+", ">", "is"}), m.term()
	case l.Kind == api.Let:
		l.A, l.B, l.Op, l.C = m.variable(), m.term(), pick(m, []string{"+", "-", "*"}, []string{"", "<", "/", "plus"}), m.term()
	default:
		l.A, l.Path, l.B = m.term(), m.path(), m.term()
	}
	if m.fault() {
		// Some of these are right: where the kind uses the field.
		[]func(){func() { l.Atom = m.atom() }, func() { l.Op = "<" }, func() { l.A = m.term() }, func() { l.B = m.term() }, func() { l.C = m.term() }, func() { l.Path = m.path() }}[m.Intn(6)]()
	}
	return l
}

func (m maker) rule() api.Rule {
	x := api.Rule{Head: m.atom(), Fold: pick(m, []int{0}, []int{-1, 1, 2, 3, 4, 5, 6})}
	if m.Intn(3) == 0 && len(x.Head.Args) > 0 {
		x.Head.Args[len(x.Head.Args)-1] = m.variable()
		x.Fold = pick(m, []int{1, 2, 3, 4, 5}, append(otherKinds(), 6))
	}
	x.Body = some(m, m.Intn(api.MaxBody+1), m.literal)
	return x
}

func (m maker) program() api.Program {
	return api.Program{Rules: some(m, m.Intn(12), m.rule), Query: m.atom()}
}

// Whether rules, atoms and paths are valid, and what their texts are, is as the chapter's words say.
func TestRandomPartsAgainstTheDefinition(t *testing.T) {
	m := newMaker(1, 60)
	valid := map[string]int{}
	told := func(name string, ok bool, got, want string) {
		if !ok {
			want = ""
		} else {
			valid[name]++
		}
		if got != want {
			t.Fatalf("a %s has the text %q, not %q", name, got, want)
		}
	}
	const rounds = 5000
	for range rounds {
		x, a, l := m.rule(), m.atom(), m.path()
		wantRule, wantAtom, wantPath := "", "", ""
		if rightRule(x) {
			wantRule = ruleText(x, never)
		}
		if rightAtom(a) {
			wantAtom = headText(a, 0)
		}
		if rightPath(l) {
			wantPath = pathText(l, never)
		}
		told("rule", rightRule(x), Rule(x), wantRule)
		told("atom", rightAtom(a), Atom(a), wantAtom)
		told("path", rightPath(l), Path(l), wantPath)
		if RightPath(l) != rightPath(l) {
			t.Fatalf("RightPath(%v) is %t", l, RightPath(l))
		}
	}
	for name, n := range valid {
		if n < rounds/10 || n > rounds*19/20 {
			t.Errorf("%d of %d random %ss are valid", n, rounds, name)
		}
	}
}

func TestRandomProgramsAgainstTheDefinition(t *testing.T) {
	m := newMaker(2, 300)
	valid, invalid := 0, 0
	for range 1000 {
		p := m.program()
		if rightProgram(p) {
			valid++
			checkProgram(t, p, programText(p, never))
		} else {
			invalid++
			checkProgram(t, p, "")
		}
		if t.Failed() {
			return
		}
	}
	if valid < 200 || invalid < 200 {
		t.Errorf("%d random programs are valid, %d are not", valid, invalid)
	}
}

// loosen writes the tokens of a text with other gaps between them.
func (m maker) loosen(text string) string {
	tokens, _, _ := lex.Tokens(text)
	var loose strings.Builder
	for i, x := range tokens {
		if i > 0 {
			gap := []string{" ", "\n", "\t ", "  "}[m.Intn(4)]
			// Without a gap, the tokens may be others.
			if pair, _, _ := lex.Tokens(tokens[i-1].Text + x.Text); len(pair) == 2 && pair[1].Text == x.Text && m.Intn(2) == 0 {
				gap = ""
			}
			loose.WriteString(gap)
		}
		loose.WriteString(x.Text)
	}
	return loose.String()
}

// checkParsed checks a text that is parsed: what it is has one text only, and that is parsed to the same.
func checkParsed(t *testing.T, text string) {
	t.Helper()
	p, at, e := parse.Parse(text)
	if e != api.OK {
		t.Fatalf("%.300q has the error %d at %d", text, e, at)
	}
	want := programText(p, never)
	if len(want) > api.MaxText {
		want = ""
	}
	checkProgram(t, p, want)
	if q, _, _ := parse.Parse(want); want != "" && Text(q) != want {
		t.Fatalf("%.300q, parsed, has the text %.300q", want, Text(q))
	}
}

func TestParsedPrograms(t *testing.T) {
	for _, text := range []string{
		"?-q.", "\n?-\tq ( X,3 )\n.", "p.p.?-p.", "p(X , count ( Y )):-r(X,Y).?-p(a,N).", "p(count).p(count,count(X)).?-p(count).",
		"p:-not r,not<X,walk=is,X is Y minus-1,Y is is plus plus,-1<= -2,r(walk,not).?-q(mean).",
		"p:-walk(X,(((a))),Y),walk(a,(^b)*,3),walk(#0000000000000000,((a/b)/(c))|((d|e)),walk).?-q.",
		"p:-walk(X,((a|b)|(c/d))?,Y),walk(X,(a|(b|c))/((d))+,Y),walk(X,(((a*)+)?),Y).?-q.",
	} {
		checkParsed(t, text)
	}
	m := newMaker(3, 0)
	more := func() bool { return m.Intn(6) == 0 }
	parsed := 0
	for range 1500 {
		p := m.program()
		text := m.loosen(programText(p, more))
		if _, _, e := parse.Parse(text); e == api.ErrLong || e == api.ErrDepth {
			continue
		}
		parsed++
		checkParsed(t, text)
		if q, _, _ := parse.Parse(text); told(q) != told(p) {
			t.Fatalf("%.300q is parsed as %.300s, not %.300s", text, told(q), told(p))
		}
	}
	if parsed < 1000 {
		t.Errorf("only %d random texts are parsed", parsed)
	}
}

func TestParsedPaths(t *testing.T) {
	m := newMaker(4, 0)
	more := func() bool { return m.Intn(5) == 0 }
	parsed := 0
	for range 5000 {
		l := m.path()
		x, _, _ := grow(l)
		text := m.loosen("(" + x.text(more) + ")")
		got, at, e := parse.Path(text)
		if e == api.ErrDepth || e == api.ErrLong {
			continue
		}
		parsed++
		if e != api.OK || !slices.Equal(got, l) {
			t.Fatalf("%q is parsed as %v, %d at %d, not %v", text, got, e, at, l)
		}
		s := Path(l)
		if again, _, e := parse.Path(s); e != api.OK || !slices.Equal(again, l) || Path(again) != s {
			t.Fatalf("%q has the text %q, which is parsed as %v, %d", text, s, again, e)
		}
		checkFewest(t, l, s)
	}
	if parsed < 4000 {
		t.Errorf("only %d random paths are parsed", parsed)
	}
}

// A source may have as many ( open as may be, though fewer are needed.
func TestParsedPathsInManyParentheses(t *testing.T) {
	for n := range api.MaxDepth + 1 {
		open, closed := strings.Repeat("(", n), strings.Repeat(")", n)
		for in, want := range map[string]string{open + "a" + closed: "a", open + "a/b" + closed + "/c": "a/b/c", open + "a|b" + closed + "/c": "(a|b)/c"} {
			if n == 0 && want == "(a|b)/c" {
				want = "a|b/c"
			}
			l, at, e := parse.Path(in)
			if e != api.OK {
				t.Fatalf("%q has the error %d at %d", in, e, at)
			}
			checkPath(t, l, want)
		}
	}
}

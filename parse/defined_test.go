package parse

import (
	"math/rand"
	"slices"
	"strconv"
	"strings"
	"testing"

	"antecedent/api"
	"antecedent/lex"
	"antecedent/value"
)

// tokensOf returns the tokens of a text that has some, and their classes.
func tokensOf(t *testing.T, text string) (tokens []lex.Token, classes []string) {
	t.Helper()
	tokens, at, e := lex.Tokens(text)
	if e != api.OK {
		t.Fatalf("Tokens(%.300q) has the error %d at %d", text, e, at)
	}
	for _, x := range tokens {
		classes = append(classes, class(x))
	}
	return tokens, classes
}

// grammatical returns what must be reported for a text that exceeds no limit, by the grammar: ErrParse at the first token that cannot continue a text of the symbol start, or at the end; or 0 and OK.
func grammatical(t *testing.T, g recognizer, start, text string) (int, api.Errno) {
	t.Helper()
	tokens, classes := tokensOf(t, text)
	n, whole := g.recognize(start, classes)
	switch {
	case whole:
		return 0, api.OK
	case n < len(tokens):
		return tokens[n].At, api.ErrParse
	}
	return len(text), api.ErrParse
}

// checkByGrammar checks what is reported for a text that exceeds no limit, as a program and as a path.
func checkByGrammar(t *testing.T, g recognizer, text string) {
	t.Helper()
	want, wantE := grammatical(t, g, "Program", text)
	if p, at, e := Parse(text); at != want || e != wantE || e != api.OK && !sameProgram(p, api.Program{}) {
		t.Fatalf("Parse(%.300q) is %+v, %d, %d, not %d, %d", text, p, at, e, want, wantE)
	}
	want, wantE = grammatical(t, g, "Path", text)
	if l, at, e := Path(text); at != want || e != wantE || (len(l) == 0) == (e == api.OK) {
		t.Fatalf("Path(%.300q) is %v, %d, %d, not %d, %d", text, l, at, e, want, wantE)
	}
}

// anyTokens are tokens of all classes.
func anyTokens() []string {
	return slices.Concat(keywords(), marks(), []string{"r", "X", "3", "#0000000000000000"})
}

// ordinaryTexts are programs and paths with all that the grammar names.
func ordinaryTexts() []string {
	return []string{
		"?- q(X, 3).",
		"p. r(a, -1). p :- r. ?- q.",
		"p(X, max(Y)) :- r(X, sum), not s(Y, count), X < 3, 4 <= X, not = a, Y != sum, Y is X minus walk. p(mean(Z)). ?- q(min).",
		"p(Z) :- not r, Z is 3 times #0000000000000000, r(Z), walk(X, ((a|^b)*/c)+?|d/^e?*, sum), is != Z, walk(not, (a), 3). ?- p(X, walk).",
		"a", "^a/b", "((a|^b)*/c)+?|d/^e?*", "(a)/(^b|c)*",
	}
}

// Each token of a text is left out, replaced, or has another one ahead of it; and the text ends behind each.
func TestWrongTokensAtEveryPlace(t *testing.T) {
	g := newRecognizer()
	for _, text := range ordinaryTexts() {
		tokens, _ := tokensOf(t, text)
		var texts []string
		for _, x := range tokens {
			texts = append(texts, x.Text)
		}
		checkByGrammar(t, g, text)
		for i := range len(texts) + 1 {
			head := strings.Join(texts[:i], " ")
			checkByGrammar(t, g, head)
			checkByGrammar(t, g, head+" \n")
			tail := strings.Join(texts[i:], "\t")
			rest := strings.Join(texts[min(i+1, len(texts)):], " ")
			checkByGrammar(t, g, head+" "+rest)
			for _, x := range anyTokens() {
				checkByGrammar(t, g, head+" "+x)
				checkByGrammar(t, g, head+" "+x+" "+tail)
				checkByGrammar(t, g, head+"  "+x+" "+rest)
			}
		}
	}
}

// All sequences of up to three tokens, behind the places of a program where much may follow.
func TestShortSequencesOfTokens(t *testing.T) {
	g := newRecognizer()
	for _, from := range []string{"", "p ", "p(", "p(X, ", "p :- ", "p :- X ", "p :- r, not ", "p :- walk(X, ", "?- q", "?- q(", "(a) "} {
		sequences := []string{""}
		for range 2 {
			var longer []string
			for _, s := range sequences {
				for _, x := range anyTokens() {
					longer = append(longer, s+x+" ")
				}
			}
			sequences = longer
			for _, s := range sequences {
				checkByGrammar(t, g, from+s)
			}
		}
	}
	for _, x := range anyTokens() {
		for _, y := range anyTokens() {
			for _, z := range []string{"r", "X", "is", "sum", "not", "(", ")", ",", ".", "<", "/", "*", "^"} {
				checkByGrammar(t, g, "p :- "+x+" "+y+" "+z)
				checkByGrammar(t, g, "p("+x+" "+y+" "+z)
				checkByGrammar(t, g, x+" "+y+" "+z)
			}
		}
	}
}

// writer makes programs at random, and their texts. Its texts have gaps and parentheses that are not needed.
type writer struct {
	*rand.Rand
	// tame programs are so small that no few changes make them exceed a limit.
	tame bool
}

// one returns one of the choices.
func (w writer) one(choices ...string) string { return choices[w.Intn(len(choices))] }

// spaced returns the parts with gaps between them.
func (w writer) spaced(parts ...string) string {
	return strings.Join(parts, w.one("", " ", " ", "\n", "\t "))
}

func (w writer) predicate() string {
	return w.one("a", "b", "p", "q", "r_1", "nots", "is_", "counts", strings.Repeat("z", api.MaxName))
}

func (w writer) variable() string {
	return w.one("X", "Y", "Z_1", "Is", "Not", "NOT", strings.Repeat("Q", api.MaxName))
}

func (w writer) term() (api.Term, string) {
	switch w.Intn(5) {
	case 0, 1:
		x := w.variable()
		return api.Term{Var: x}, x
	case 2:
		n := w.Int63n(2000) - 1000
		return num(n), strconv.FormatInt(n, 10)
	case 3:
		n := w.Int63n(1 << 62)
		return flo(n), value.Text(flo(n).Val)
	}
	x := w.one(append(keywords(), "a", "b_2", "r")...)
	return sym(x), x
}

// size returns a number of items from 1 to most.
func (w writer) size(most int) int {
	if w.tame {
		most = 3
	}
	return 1 + w.Intn(most)
}

func (w writer) atom() (api.Atom, string) {
	a := api.Atom{Pred: w.predicate()}
	if w.Intn(4) == 0 {
		return a, a.Pred
	}
	var texts []string
	for range w.size(api.MaxArity) {
		x, s := w.term()
		a.Args, texts = append(a.Args, x), append(texts, s)
	}
	return a, w.spaced(a.Pred, "(", strings.Join(texts, w.spaced("", ",", "")), ")")
}

// expression is a path with its text, which binds as tightly as its strength says: an Or 0, a Then 1, what may be repeated 2.
type expression struct {
	steps    []api.Step
	text     string
	strength int
}

// path returns a path in which at most depth others are within each other.
func (w writer) path(depth int) expression {
	kind := w.Intn(10)
	if depth == 0 {
		kind = w.Intn(2)
	}
	switch kind {
	case 0:
		s := w.predicate()
		return expression{[]api.Step{{Kind: api.Back, Label: s}}, w.spaced("^", s), 2}
	case 1:
		s := w.predicate()
		return expression{[]api.Step{{Kind: api.Along, Label: s}}, s, 2}
	case 2, 3, 4:
		return w.joined(depth, api.Then, "/", 1)
	case 5, 6, 7:
		return w.joined(depth, api.Or, "|", 0)
	}
	k := api.Star + w.Intn(3)
	x := w.operand(depth, 2)
	return expression{append(x.steps, api.Step{Kind: k}), w.spaced(x.text, "*+?"[k-api.Star:k-api.Star+1]), 2}
}

// joined returns two paths that are joined; the right one must bind more tightly, as sequences associate to the left.
func (w writer) joined(depth, kind int, mark string, strength int) expression {
	x, y := w.operand(depth, strength), w.operand(depth, strength+1)
	return expression{append(slices.Concat(x.steps, y.steps), api.Step{Kind: kind}), w.spaced(x.text, mark, y.text), strength}
}

// operand returns a path that binds at least as tightly as strength says.
func (w writer) operand(depth, strength int) expression {
	x := w.path(max(0, depth-1-w.Intn(2)))
	for x.strength < strength || w.Intn(8) == 0 {
		x.text, x.strength = w.spaced("(", x.text, ")"), 2
	}
	return x
}

// walkPath returns a path that is not too long and not too deep.
func (w writer) walkPath() expression {
	depth := 10
	if w.tame {
		depth = 3
	}
	for {
		x := w.operand(1+w.Intn(depth), 0)
		if len(x.steps) <= api.MaxSteps && Deep(x.text) <= api.MaxDepth {
			return x
		}
	}
}

func (w writer) literal() (api.Literal, string) {
	a, s := w.term()
	b, u := w.term()
	switch w.Intn(5) {
	case 0:
		x, text := w.atom()
		return holds(x), text
	case 1:
		x, text := w.atom()
		return fails(x), "not " + text
	case 2:
		op := w.one(comparisons()...)
		return compare(a, op, b), w.spaced(s, op, u)
	case 3:
		x, k := w.variable(), w.Intn(3)
		return let(variable(x), a, "+-*"[k:k+1], b), strings.Join([]string{x, "is", s, []string{"plus", "minus", "times"}[k], u}, w.one(" ", "\n", " \t"))
	}
	x := w.walkPath()
	return walk(a, x.steps, b), w.spaced("walk", "(", s, ",", x.text, ",", u, ")")
}

func (w writer) rule() (api.Rule, string) {
	head, text := w.atom()
	x := api.Rule{Head: head}
	if w.Intn(3) == 0 && len(head.Args) < api.MaxArity {
		fold, v := w.one("count", "sum", "min", "max", "mean"), w.variable()
		x.Fold = folds()[fold]
		s := w.spaced(fold, "(", v, ")", ")")
		if len(head.Args) == 0 {
			text = w.spaced(text, "(", s)
		} else {
			text = w.spaced(text[:strings.LastIndex(text, ")")], ",", s)
		}
		x.Head.Args = append(x.Head.Args, variable(v))
	}
	if w.Intn(4) > 0 {
		var texts []string
		for range w.size(api.MaxBody) {
			l, s := w.literal()
			x.Body, texts = append(x.Body, l), append(texts, s)
		}
		text = w.spaced(text, ":-", strings.Join(texts, w.spaced("", ",", "")))
	}
	return x, w.spaced(text, ".")
}

func (w writer) program(rules int) (api.Program, string) {
	var p api.Program
	var text strings.Builder
	for range rules {
		x, s := w.rule()
		p.Rules = append(p.Rules, x)
		text.WriteString(s + w.one("", " ", "\n"))
	}
	q, s := w.atom()
	p.Query = q
	text.WriteString(w.spaced("?-", s, "."))
	return p, text.String()
}

func TestRandomProgramsAreAsWritten(t *testing.T) {
	w := writer{Rand: rand.New(rand.NewSource(1))}
	checked := 0
	for range 2000 {
		p, text := w.program(w.Intn(8))
		if len(text) > api.MaxText {
			continue
		}
		checked++
		checkParse(t, text, p)
		if t.Failed() {
			return
		}
	}
	if checked < 1500 {
		t.Errorf("only %d random programs are short enough", checked)
	}
	for _, n := range []int{50, 120, api.MaxRules} {
		tame := writer{w.Rand, true}
		for range 5 {
			p, text := tame.program(n)
			if len(text) <= api.MaxText {
				checkParse(t, text, p)
			} else if _, at, e := Parse(text); at != 0 || e != api.ErrLong {
				t.Errorf("a text of %d bytes: %d, %d", len(text), at, e)
			}
		}
	}
}

func TestRandomPathsAreAsWritten(t *testing.T) {
	w := writer{Rand: rand.New(rand.NewSource(2))}
	long := 0
	for range 30000 {
		x := w.walkPath()
		if len(x.steps) > 40 {
			long++
		}
		if l, at, e := Path(x.text); !slices.Equal(l, x.steps) || at != 0 || e != api.OK {
			t.Fatalf("Path(%q) is %v, %d, %d, not %v", x.text, l, at, e, x.steps)
		}
	}
	if long < 50 {
		t.Errorf("only %d random paths are long", long)
	}
}

// Some tokens of a random program are left out, doubled, replaced or exchanged.
func TestRandomChangesOfPrograms(t *testing.T) {
	g := newRecognizer()
	w := writer{rand.New(rand.NewSource(3)), true}
	good := 0
	for range 4000 {
		_, text := w.program(w.Intn(3))
		tokens, _ := tokensOf(t, text)
		var texts []string
		for _, x := range tokens {
			texts = append(texts, x.Text)
		}
		for range w.Intn(4) {
			i := w.Intn(len(texts))
			switch w.Intn(4) {
			case 0:
				texts = slices.Delete(texts, i, i+1)
			case 1:
				texts = slices.Insert(texts, i, texts[i])
			case 2:
				texts[i] = w.one(anyTokens()...)
			case 3:
				k := w.Intn(len(texts))
				texts[i], texts[k] = texts[k], texts[i]
			}
			if len(texts) == 0 {
				texts = []string{"p"}
			}
		}
		text = strings.Join(texts, w.one(" ", "\n", " \t"))
		checkByGrammar(t, g, text)
		if _, _, e := Parse(text); e == api.OK {
			good++
		}
	}
	if good < 500 || good > 3500 {
		t.Errorf("%d random programs are good", good)
	}
}

// Whatever the bytes are, the calls end, and report the errors of the tokens if there are any.
func TestRandomBytes(t *testing.T) {
	random := rand.New(rand.NewSource(4))
	g := newRecognizer()
	for range 30000 {
		text := make([]byte, random.Intn(30))
		alphabet := []string{"pqX3 (),.:-?", "ab/|*+?^() ", "notiswalk X,()<=", "aA1#-_(\n\r\x00\x80\xc3\xa9"}[random.Intn(4)]
		for i := range text {
			text[i] = alphabet[random.Intn(len(alphabet))]
		}
		s := string(text)
		_, at, e := lex.Tokens(s)
		if e == api.OK {
			checkByGrammar(t, g, s)
			continue
		}
		if p, k, f := Parse(s); k != at || f != e || !sameProgram(p, api.Program{}) {
			t.Fatalf("Parse(%q) is %+v, %d, %d, not %d, %d", s, p, k, f, at, e)
		}
		if l, k, f := Path(s); k != at || f != e || len(l) != 0 {
			t.Fatalf("Path(%q) is %v, %d, %d, not %d, %d", s, l, k, f, at, e)
		}
		if n := Deep(s); n != 0 {
			t.Fatalf("Deep(%q) is %d", s, n)
		}
	}
}

// spoil writes into all memory of a list: its items, and what may lie behind them.
func spoil[T any](l []T) {
	var zero T
	for i := range l[:cap(l)] {
		l[:cap(l)][i] = zero
	}
}

func TestResultsShareNoMemory(t *testing.T) {
	const text = "p(X, Y, count(Z)) :- r(X, Y), not s(X, Y, Z), walk(X, (a|b)/^c, Y), walk(X, a/b/c, Z), r(Z). p(a, b, c). s(X) :- r(X). ?- q(X, Y)."
	want, _, _ := Parse(text)
	// Each list of a program by its number; the other lists must stay as they are when it is spoiled.
	lists := []func(p *api.Program){
		func(p *api.Program) { spoil(p.Rules[0].Head.Args); p.Rules[0].Head.Args = want.Rules[0].Head.Args },
		func(p *api.Program) { spoil(p.Rules[1].Head.Args); p.Rules[1].Head.Args = want.Rules[1].Head.Args },
		func(p *api.Program) { spoil(p.Query.Args); p.Query.Args = want.Query.Args },
		func(p *api.Program) { spoil(p.Rules[0].Body); p.Rules[0].Body = want.Rules[0].Body },
		func(p *api.Program) { spoil(p.Rules); p.Rules = want.Rules },
	}
	for i := range 2 {
		lists = append(lists, func(p *api.Program) {
			spoil(p.Rules[0].Body[i].Atom.Args)
			p.Rules[0].Body[i].Atom.Args = want.Rules[0].Body[i].Atom.Args
		}, func(p *api.Program) {
			spoil(p.Rules[0].Body[i+2].Path)
			p.Rules[0].Body[i+2].Path = want.Rules[0].Body[i+2].Path
		})
	}
	for i, f := range lists {
		p, _, _ := Parse(text)
		other, _, _ := Parse(text)
		f(&p)
		if !sameProgram(p, want) || !sameProgram(other, want) {
			t.Errorf("changing the list %d of a program changes others: %+v, %+v", i, p, other)
		}
	}
	l, _, _ := Path("(a|b)/^c")
	other, _, _ := Path("(a|b)/^c")
	spoil(l)
	if !slices.Equal(other, steps("a b | ^c /")) {
		t.Errorf("changing steps makes others %v", other)
	}
}

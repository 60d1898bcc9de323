package arity

import (
	"fmt"
	"math/rand"
	"slices"
	"strings"
	"testing"

	"antecedent/api"
	"antecedent/show"
)

// maker makes programs at random.
type maker struct {
	*rand.Rand
	// preds are the predicates that it uses, with their sizes; some of them are labels, too.
	preds  []api.Atom
	labels []string
	// values are the values that it uses. Other terms are variables, all of them but one in so many.
	values   []api.Value
	rareness int
	// Each size is wrong one time in so many; never if it is 0.
	faults int
}

func newMaker(seed int64) *maker { return &maker{Rand: rand.New(rand.NewSource(seed))} }

// begin chooses up to most predicates, with up to so many arguments, and the values, for a program.
func (m *maker) begin(most, arguments, faults int) {
	m.preds, m.labels, m.values, m.faults = nil, nil, nil, faults
	for i := range 1 + m.Intn(most) {
		name := string("acegikmo"[i]) + []string{"", "_", "0", "a", "aa"}[m.Intn(5)]
		size := m.Intn(arguments + 1)
		m.preds = append(m.preds, api.Atom{Pred: name, Args: make([]api.Term, size)})
		if size == 2 {
			m.labels = append(m.labels, name)
		}
	}
	if len(m.labels) == 0 {
		m.labels = []string{"l", "m_2"}[:1+m.Intn(2)]
	}
	all := []api.Value{{Kind: api.Int, N: -3}, {Kind: api.Flo, N: 1 << 60}, {Kind: api.Sym, S: "b"}, {Kind: api.Int}, {Kind: api.Flo}, {Kind: api.Sym, S: "not"}}
	m.rareness = 2 + m.Intn(20)
	// Most programs have values of one or two kinds, so that they have no error.
	for range []int{1, 1, 1, 2, 2, 6}[m.Intn(6)] {
		m.values = append(m.values, all[m.Intn(len(all))])
	}
}

func (m *maker) variable() api.Term { return api.Term{Var: []string{"X", "Y", "Z"}[m.Intn(3)]} }

func (m *maker) term() api.Term {
	if m.Intn(m.rareness) == 0 {
		return api.Term{Val: m.values[m.Intn(len(m.values))]}
	}
	return m.variable()
}

func (m *maker) atom() api.Atom {
	x := m.preds[m.Intn(len(m.preds))]
	size := len(x.Args)
	if m.faults > 0 && m.Intn(m.faults) == 0 {
		size = m.Intn(api.MaxArity + 1)
	}
	a := api.Atom{Pred: x.Pred}
	for range size {
		a.Args = append(a.Args, m.term())
	}
	return a
}

func (m *maker) path() []api.Step {
	var l []api.Step
	for i := range 1 + m.Intn(3) {
		l = append(l, api.Step{Kind: api.Along + m.Intn(2), Label: m.labels[m.Intn(len(m.labels))]})
		if m.Intn(2) == 0 {
			l = append(l, api.Step{Kind: api.Star + m.Intn(3)})
		}
		if i > 0 {
			l = append(l, api.Step{Kind: api.Then + m.Intn(2)})
		}
	}
	return l
}

func (m *maker) literal() api.Literal {
	switch m.Intn(9) {
	case 0:
		return api.Literal{Kind: api.Compare, A: m.term(), Op: []string{"<", "<=", "=", "!="}[m.Intn(4)], B: m.term()}
	case 1:
		return api.Literal{Kind: api.Let, A: m.variable(), B: m.term(), Op: []string{"+", "-", "*"}[m.Intn(3)], C: m.term()}
	case 2:
		return api.Literal{Kind: api.Walk, A: m.term(), Path: m.path(), B: m.term()}
	case 3, 4:
		return api.Literal{Kind: api.Fails, Atom: m.atom()}
	}
	return api.Literal{Kind: api.Holds, Atom: m.atom()}
}

func (m *maker) rule(literals int) api.Rule {
	x := api.Rule{Head: m.atom()}
	if n := len(x.Head.Args); n > 0 && m.Intn(3) == 0 {
		x.Fold = api.Count + m.Intn(5)
		x.Head.Args[n-1] = m.variable()
	}
	for range m.Intn(literals + 1) {
		x.Body = append(x.Body, m.literal())
	}
	return x
}

func (m *maker) program(rules, literals int) api.Program {
	var p api.Program
	for range m.Intn(rules + 1) {
		p.Rules = append(p.Rules, m.rule(literals))
	}
	p.Query = m.atom()
	return p
}

// count counts what is told: the errors, and results in which a column has a kind, or none has.
func count(counts map[string]int, told string) {
	switch {
	case told == "arity" || told == "type":
		counts[told]++
	case strings.ContainsAny(told, "("):
		counts["kinds"]++
	default:
		counts["none"]++
	}
}

func TestRandomProgramsAgainstTheDefinition(t *testing.T) {
	m := newMaker(1)
	counts := map[string]int{}
	const rounds = 2000
	for range rounds {
		m.begin(8, 4, []int{0, 0, 15}[m.Intn(3)])
		p := m.program(6, 4)
		want := defined(p)
		count(counts, want)
		checkProgram(t, p, want)
		if t.Failed() {
			return
		}
	}
	for _, s := range []string{"arity", "type", "kinds"} {
		if counts[s] < rounds/20 {
			t.Errorf("of %d random programs, %d are of the sort %s", rounds, counts[s], s)
		}
	}
}

func TestRandomProgramsInRandomOrder(t *testing.T) {
	m := newMaker(2)
	for range 1500 {
		m.begin(8, 3, []int{0, 0, 100}[m.Intn(3)])
		p := m.program(20, 6)
		if !show.Right(p) {
			t.Fatalf("%+v is not valid", p)
		}
		want := told(Kinds(p))
		if s := defined(p); s != want {
			t.Fatalf("%q: %s, not %s", show.Text(p), want, s)
		}
		for range 4 {
			x := api.Program{Rules: slices.Clone(p.Rules), Query: p.Query}
			m.Shuffle(len(x.Rules), func(i, j int) { x.Rules[i], x.Rules[j] = x.Rules[j], x.Rules[i] })
			for i := range x.Rules {
				body := slices.Clone(x.Rules[i].Body)
				m.Shuffle(len(body), func(i, j int) { body[i], body[j] = body[j], body[i] })
				x.Rules[i].Body = body
			}
			if s := told(Kinds(x)); s != want {
				t.Fatalf("%q: %s, but in another order %s", show.Text(x), s, want)
			}
			some := api.Program{Rules: slices.DeleteFunc(x.Rules, func(api.Rule) bool { return m.Intn(2) == 0 }), Query: p.Query}
			if s := told(Kinds(some)); s != defined(some) || want != "arity" && s == "arity" || want != "arity" && want != "type" && s == "type" {
				t.Fatalf("%q: %s, but with more rules %s", show.Text(some), s, want)
			}
		}
	}
}

// Small programs, against all ways of giving each place a kind.
func TestRandomProgramsByTrial(t *testing.T) {
	m := newMaker(3)
	counts := map[string]int{}
	checked := 0
	for range 8000 {
		m.begin(2, 2, 0)
		m.rareness = 2 + m.Intn(3)
		p := m.program(2, 2)
		if defined(p) == "arity" || len(newConditions(p).numbers) > 7 {
			continue
		}
		sizes := map[string]int{}
		for name, l := range newWeb(p).sizes {
			for n := range l {
				sizes[name] = n
			}
		}
		want := byTrial(p, sizes)
		checked++
		count(counts, want)
		if s, by := told(Kinds(p)), defined(p); s != want || by != want {
			t.Fatalf("%q: %s, by the definition %s, by trial %s", show.Text(p), s, by, want)
		}
	}
	if checked < 3000 || counts["type"] < checked/20 || counts["kinds"] < checked/5 {
		t.Errorf("%d random programs were tried: %v", checked, counts)
	}
}

// Whatever a program is, valid or not, the calls end, and return the same each time; with an error, nothing else.
func TestProgramsThatAreNotValid(t *testing.T) {
	x := api.Term{Var: "X"}
	terms := []api.Term{{}, x, {Var: "x"}, {Var: " "}, {Val: api.Value{Kind: 9}}, {Val: api.Value{Kind: -1, S: "X"}}, {Var: "X", Val: api.Value{Kind: 3, S: "b"}}, {Val: api.Value{Kind: 1, S: "b"}}}
	numbers := []int{-1 << 63, -1, 0, 1, 2, 3, 4, 5, 6, 7, 8, 99, 1<<63 - 1}
	m := rand.New(rand.NewSource(4))
	term := func() api.Term { return terms[m.Intn(len(terms))] }
	number := func() int { return numbers[m.Intn(len(numbers))] }
	atom := func() api.Atom {
		a := api.Atom{Pred: []string{"", "p", "X", "p", "not", "p q"}[m.Intn(6)]}
		for range m.Intn(3) * m.Intn(8) {
			a.Args = append(a.Args, term())
		}
		return a
	}
	for range 20000 {
		var p api.Program
		for range m.Intn(4) {
			r := api.Rule{Head: atom(), Fold: number()}
			for range m.Intn(4) {
				l := api.Literal{Kind: number(), Atom: atom(), Op: "?", A: term(), B: term(), C: term()}
				for range m.Intn(4) {
					l.Path = append(l.Path, api.Step{Kind: number(), Label: []string{"", "p", "X"}[m.Intn(3)]})
				}
				r.Body = append(r.Body, l)
			}
			p.Rules = append(p.Rules, r)
		}
		p.Query = atom()
		before := fmt.Sprintf("%+v", p)
		l, e := Kinds(p)
		if e != api.OK && e != api.ErrArity && e != api.ErrType || e != api.OK && len(l) != 0 {
			t.Fatalf("%+v: %v, error %d", p, l, e)
		}
		if again, f := Kinds(p); fmt.Sprint(l, e) != fmt.Sprint(again, f) {
			t.Fatalf("%+v: %v, error %d, and then %v, error %d", p, l, e, again, f)
		}
		if s := fmt.Sprintf("%+v", p); s != before {
			t.Fatalf("%s has become %s", before, s)
		}
	}
	l, e := Kinds(api.Program{})
	if len(l) != 1 || l[0].Name != "" || len(l[0].Kinds) != 0 || e != api.OK {
		t.Errorf("Kinds of the zero value: %v, error %d", l, e)
	}
}

// A program may be far longer than a valid one.
func TestLongPrograms(t *testing.T) {
	const n = 100000
	name := func(i int) string { return fmt.Sprintf("p%06d", i) }
	atom := func(i int, args ...api.Term) api.Atom { return api.Atom{Pred: name(i), Args: args} }
	x, b := api.Term{Var: "X"}, api.Term{Val: api.Value{Kind: api.Sym, S: "b"}}
	var p api.Program
	for i := range n {
		p.Rules = append(p.Rules, api.Rule{Head: atom(i, x), Body: []api.Literal{{Kind: api.Holds, Atom: atom(i+1, x)}}})
	}
	for _, last := range []int{0, n / 2, n} {
		p.Query = atom(last, b)
		for range 2 {
			l, e := Kinds(p)
			if e != api.OK || len(l) != n+1 {
				t.Fatalf("%d rules: %d predicates, error %d", n, len(l), e)
			}
			for i, y := range l {
				if y.Name != name(i) || !slices.Equal(y.Kinds, []int{api.Sym}) {
					t.Fatalf("the predicate with the number %d is %v", i, y)
				}
			}
			slices.Reverse(p.Rules)
		}
	}
}

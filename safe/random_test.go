package safe

import (
	"fmt"
	"math/rand"
	"slices"
	"strings"
	"testing"

	"antecedent/api"
)

// pool are literals of all kinds, with few variables.
func pool(t *testing.T) []api.Literal {
	return append(body(t, "q(X), q(Y), walk(X, a, Y), not q(X), not q(X, Y), X < Y, X != 1, X = Y, Y = X, Y = 1"),
		slices.Concat(body(t, "X is Y plus 1, Y is X plus 1, X is X plus Y, Z is X plus Y, not q(Z), Z = Y, not q"), []api.Literal{
			{Kind: 7, C: named("Y")}, {Kind: api.Fails, B: named("Y")}, {Kind: api.Compare, Op: "=", A: named("X"), B: named("Z"), C: named("Y")},
		})...)
}

// All bodies of up to three literals of the pool, against the definition.
func TestAllSmallBodies(t *testing.T) {
	all := pool(t)
	checked := map[int]int{}
	var grow func(l []api.Literal)
	grow = func(l []api.Literal) {
		possible := orders(len(l))
		for _, bound := range []string{"", "X", "Y", "X Z"} {
			want, wantAfter, ok := defined(l, words(bound), possible)
			order, after, e := Order(l, words(bound))
			if ok != (e == api.OK) || !ok && e != api.ErrUnsafe || !slices.Equal(order, want) || strings.Join(after, " ") != wantAfter {
				t.Fatalf("%s with %q: %v, %q, error %d; by the definition %v, %q, %t", told(l), bound, order, after, e, want, wantAfter, ok)
			}
			if ok {
				checked[len(l)]++
			}
		}
		if len(l) < 3 {
			for _, x := range all {
				grow(append(slices.Clone(l), x))
			}
		}
	}
	grow(nil)
	if checked[0] != 4 || checked[3] < 10000 {
		t.Errorf("safe bodies, by their lengths: %v", checked)
	}
}

// maker makes bodies at random.
type maker struct {
	*rand.Rand
	names []string
	// In a valid literal, what its kind does not use is zero.
	valid bool
}

func newMaker(seed int64) *maker {
	return &maker{Rand: rand.New(rand.NewSource(seed)), names: words("X Y Z X1 Y_")}
}

func (m *maker) variable() api.Term { return named(m.names[m.Intn(len(m.names))]) }

func (m *maker) term() api.Term {
	if m.Intn(4) == 0 {
		return []api.Term{number(3), number(-1), {Val: api.Value{Kind: api.Sym, S: "b"}}, {Val: api.Value{Kind: api.Flo}}}[m.Intn(4)]
	}
	return m.variable()
}

func (m *maker) atom(most int) api.Atom {
	a := api.Atom{Pred: words("p q r")[m.Intn(3)]}
	for range m.Intn(most + 1) {
		a.Args = append(a.Args, m.term())
	}
	return a
}

func (m *maker) path() []api.Step {
	return []api.Step{{Kind: api.Along, Label: "a"}, {Kind: api.Star}}[:1+m.Intn(2)]
}

func (m *maker) literal() api.Literal {
	kind := api.Holds + m.Intn(5)
	if kind == api.Holds && m.Intn(3) > 0 {
		kind = api.Fails
	}
	compare, let := words("< <= = = = !=")[m.Intn(6)], words("+ - *")[m.Intn(3)]
	if !m.valid {
		l := api.Literal{Kind: kind, Atom: m.atom(2), Op: compare, A: m.term(), B: m.term(), C: m.term(), Path: m.path()}
		l.Kind -= m.Intn(10) / 9 * m.Intn(20)
		for _, u := range []*api.Term{&l.A, &l.B, &l.C} {
			if m.Intn(2) == 0 {
				*u = api.Term{}
			}
		}
		return l
	}
	switch kind {
	case api.Compare:
		return api.Literal{Kind: kind, Op: compare, A: m.term(), B: m.term()}
	case api.Let:
		return api.Literal{Kind: kind, Op: let, A: m.variable(), B: m.term(), C: m.term()}
	case api.Walk:
		return api.Literal{Kind: kind, A: m.term(), B: m.term(), Path: m.path()}
	}
	return api.Literal{Kind: kind, Atom: m.atom(3)}
}

func (m *maker) body(most int) []api.Literal {
	var l []api.Literal
	for range m.Intn(most + 1) {
		l = append(l, m.literal())
	}
	return l
}

func (m *maker) rule(most int) api.Rule { return api.Rule{Head: m.atom(2), Body: m.body(most)} }

func (m *maker) bound() []string {
	var l []string
	for range m.Intn(4) {
		l = append(l, m.names[m.Intn(len(m.names))])
	}
	return l
}

// allOrders returns all orders of each length up to most.
func allOrders(most int) [][][]int {
	var all [][][]int
	for n := range most + 1 {
		all = append(all, orders(n))
	}
	return all
}

func TestRandomBodies(t *testing.T) {
	m, all := newMaker(1), allOrders(6)
	counts := map[string]int{}
	for i := range 6000 {
		m.valid = i%2 == 0
		l, bound := m.body(6), m.bound()
		order, after, ok := defined(l, bound, all[len(l)])
		want := strings.Trim(fmt.Sprint(order), "[]")
		switch {
		case !ok:
			want = "unsafe"
			counts["unsafe"]++
		case slices.IsSorted(order):
			counts["in order"]++
		default:
			counts["in another order"]++
		}
		checkOrder(t, l, bound, want, after)
		if t.Failed() {
			return
		}
	}
	for _, s := range []string{"unsafe", "in order", "in another order"} {
		if counts[s] < 300 {
			t.Errorf("%d random bodies are %s", counts[s], s)
		}
	}
}

func TestRandomProgramsAgainstTheDefinition(t *testing.T) {
	m, all := newMaker(2), allOrders(4)
	counts := map[bool]int{}
	for i := range 4000 {
		m.valid = i%2 == 0
		p := api.Program{Query: m.atom(3)}
		want := &api.Program{Query: p.Query}
		for range m.Intn(4) {
			x := m.rule(4)
			x.Fold = m.Intn(api.Mean + 1)
			if m.Intn(3) > 0 {
				// Then the head's variables are bound, unless the body is not safe.
				x.Body = append(x.Body, api.Literal{Kind: api.Holds, Atom: x.Head})[:min(4, len(x.Body)+1)]
			}
			y := definedRule(x, all[len(x.Body)])
			checkRule(t, x, y)
			counts[y != nil]++
			p.Rules = append(p.Rules, x)
			if y == nil {
				want = nil
			} else if want != nil {
				want.Rules = append(want.Rules, *y)
			}
		}
		checkProgram(t, p, want)
		if want != nil {
			checkProgram(t, *want, want)
		}
		if t.Failed() {
			return
		}
	}
	if counts[true] < 1000 || counts[false] < 1000 {
		t.Errorf("random rules, safe or not: %v", counts)
	}
}

// selectable returns those of the literals that can be selected, in order, by what Order returns for each of them alone.
func selectable(l []api.Literal, bound []string) []api.Literal {
	var some []api.Literal
	left := slices.Clone(l)
	for i := 0; i < len(left); i++ {
		if _, next, e := Order(left[i:i+1], bound); e == api.OK {
			some, left, bound = append(some, left[i]), slices.Delete(left, i, i+1), next
			// Those ahead of it may be ready now.
			i = -1
		}
	}
	return some
}

// checkSelection checks that Order selects each literal once, when it is ready, and returns an error only if not all can be selected; it returns whether they can be.
func checkSelection(t *testing.T, l []api.Literal, bound []string) bool {
	t.Helper()
	order, after, e := Order(l, bound)
	if some := selectable(l, bound); (e == api.OK) != (len(some) == len(l)) {
		t.Fatalf("%s with %q: error %d, but %d literals can be selected", told(l), bound, e, len(some))
	}
	if e != api.OK {
		return false
	}
	now := Binds(api.Literal{}, bound)
	for _, i := range order {
		_, next, e := Order(l[i:i+1], now)
		if e != api.OK || !slices.Equal(next, Binds(l[i], now)) {
			t.Fatalf("%s with %q: the order %v, but %d is not ready when %q are bound", told(l), bound, order, i, now)
		}
		now = next
	}
	if !slices.Equal(now, after) {
		t.Fatalf("%s with %q: %q are bound after it, not %q", told(l), bound, after, now)
	}
	var once []int
	for i := range l {
		once = append(once, i)
	}
	if !slices.Equal(slices.Sorted(slices.Values(order)), once) {
		t.Fatalf("%s with %q: the order %v", told(l), bound, order)
	}
	return true
}

// With more variables bound, nothing that could be selected is lost; in any order of the literals.
func TestRandomBodiesWithMoreBound(t *testing.T) {
	m := newMaker(3)
	counts := map[string]int{}
	for i := range 20000 {
		m.valid = i%2 == 0
		l, bound := m.body(12), m.bound()
		more := slices.Concat(m.bound(), bound, m.bound())
		before, after := checkSelection(t, l, bound), checkSelection(t, l, more)
		counts[fmt.Sprint(before, after)]++
		if before && !after {
			t.Fatalf("%s is safe with %q, but not with %q", told(l), bound, more)
		}
		// Where not all can be selected, those that can be still can be.
		some := selectable(l, bound)
		if !checkSelection(t, some, bound) || !checkSelection(t, some, more) || len(selectable(l, more)) < len(some) {
			t.Fatalf("%s with %q: %s can be selected, but not with %q", told(l), bound, told(some), more)
		}
		shuffled := slices.Clone(l)
		m.Shuffle(len(l), func(i, j int) { shuffled[i], shuffled[j] = shuffled[j], shuffled[i] })
		if checkSelection(t, shuffled, bound) != before {
			t.Fatalf("with %q, %s is safe: %t; but it is not so in another order", bound, told(l), before)
		}
		if !before {
			continue
		}
		// What is in its order stays in it, and also with more variables bound.
		order, known, _ := Order(l, bound)
		var inOrder []api.Literal
		for _, i := range order {
			inOrder = append(inOrder, l[i])
		}
		for _, names := range [][]string{bound, more} {
			again, after, e := Order(inOrder, names)
			if e != api.OK || !slices.IsSorted(again) || len(again) != len(l) {
				t.Fatalf("%s with %q: in its order, it has the order %v, error %d", told(inOrder), names, again, e)
			}
			for _, name := range known {
				if !slices.Contains(after, name) {
					t.Fatalf("%s with %q: then %q are bound, without %s", told(inOrder), names, after, name)
				}
			}
		}
	}
	for _, s := range []string{"false false", "false true", "true true"} {
		if counts[s] < 500 {
			t.Errorf("of all random bodies, safe before and then: %v", counts)
		}
	}
}

func TestRandomVarsAndBinds(t *testing.T) {
	m := newMaker(4)
	for i := range 5000 {
		m.valid = i%2 == 0
		l, bound := m.literal(), m.bound()
		_, vars, _ := defined([]api.Literal{{Atom: api.Atom{Args: l.Atom.Args}, A: l.A, B: l.B, C: l.C}}, nil, orders(1))
		_, all, _ := defined([]api.Literal{{Atom: api.Atom{Args: l.Atom.Args}, A: l.A, B: l.B, C: l.C}}, bound, orders(1))
		checkBinds(t, l, nil, vars)
		checkBinds(t, l, bound, all)
	}
}

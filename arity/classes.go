package arity

import (
	"cmp"

	"antecedent/api"
)

// place is what has one kind: a column of the predicate called name, or the variable called name of a rule.
type place struct {
	name string
	// column is the number of a column, rule that of a variable's rule; the other one is none.
	column, rule int
}

const none = -1

// class is what must have the same kind: places, and values.
type class struct {
	// larger is the class of which this one has become a part, if it has: then only that one counts.
	larger *class
	// kind is 0 as long as no value determines it.
	kind    int
	numeric bool
}

// whole returns the class of which c is a part in the end, or c itself.
func (c *class) whole() *class {
	for c.larger != nil {
		if c.larger.larger != nil {
			// What is skipped here is not gone through again, so that long chains of classes become short.
			c.larger = c.larger.larger
		}
		c = c.larger
	}
	return c
}

// same makes one class of several. It panics with a fault if there is no kind that all of them can have.
func same(first *class, others ...*class) {
	a := first.whole()
	for _, c := range others {
		b := c.whole()
		if a == b {
			continue
		}
		if a.kind != 0 && b.kind != 0 && a.kind != b.kind {
			panic(fault{api.ErrType})
		}
		a.kind, a.numeric, b.larger = cmp.Or(a.kind, b.kind), a.numeric || b.numeric, a
		if a.numeric && a.kind == api.Sym {
			panic(fault{api.ErrType})
		}
	}
}

// given returns the class of a value of that kind.
func given(kind int) *class { return &class{kind: kind} }

// number returns the class of a number of either kind.
func number() *class { return &class{numeric: true} }

// classes are the classes of all places that have occurred.
type classes map[place]*class

// classesIn returns the classes of all places of the rules. It panics with a fault if a place has no kind that it can have.
func classesIn(rules []api.Rule) classes {
	m := classes{}
	for i, x := range rules {
		m.head(i, x)
		for _, l := range x.Body {
			m.literal(i, l)
		}
	}
	return m
}

// at returns the class of a place.
func (m classes) at(p place) *class {
	c := m[p]
	if c == nil {
		c = &class{}
		m[p] = c
	}
	return c
}

// column returns the class of the column with that number.
func (m classes) column(pred string, i int) *class { return m.at(place{pred, i, none}) }

// term returns the class of a term of the rule with that number.
func (m classes) term(rule int, t api.Term) *class {
	if t.Var == "" {
		return given(t.Val.Kind)
	}
	return m.at(place{t.Var, none, rule})
}

// terms takes account of terms that stand at the first columns of a predicate.
func (m classes) terms(rule int, pred string, l []api.Term) {
	for i, t := range l {
		same(m.column(pred, i), m.term(rule, t))
	}
}

// head takes account of the head of the rule with that number, and of its fold.
func (m classes) head(rule int, x api.Rule) {
	pred, last := x.Head.Pred, len(x.Head.Args)-1
	if x.Fold == 0 || last < 0 {
		m.terms(rule, pred, x.Head.Args)
		return
	}
	m.terms(rule, pred, x.Head.Args[:last])
	result, operand := m.column(pred, last), m.term(rule, x.Head.Args[last])
	switch x.Fold {
	case api.Count:
		same(result, given(api.Int))
	case api.Sum:
		same(result, operand, number())
	case api.Min, api.Max:
		same(result, operand)
	case api.Mean:
		same(result, given(api.Flo))
		same(operand, number())
	}
}

// literal takes account of a literal of the rule with that number.
func (m classes) literal(rule int, l api.Literal) {
	switch l.Kind {
	case api.Holds, api.Fails:
		m.terms(rule, l.Atom.Pred, l.Atom.Args)
	case api.Compare:
		same(m.term(rule, l.A), m.term(rule, l.B))
	case api.Let:
		same(m.term(rule, l.A), m.term(rule, l.B), m.term(rule, l.C), number())
	case api.Walk:
		ends := m.term(rule, l.A)
		same(ends, m.term(rule, l.B))
		for _, label := range labels(l.Path) {
			same(ends, m.column(label, 0), m.column(label, 1))
		}
	}
}

// kinds returns the kinds of the columns of a predicate with so many arguments.
func (m classes) kinds(pred string, size int) []int {
	l := make([]int, size)
	for i := range l {
		l[i] = m.column(pred, i).whole().kind
	}
	return l
}

package arity

import (
	"fmt"
	"maps"
	"slices"

	"antecedent/api"
)

// What Kinds returns, in two other ways: by what each place reaches along the pairs of places that have the same kind, and by all ways of giving each place a kind.

// web is what a program says of its places, by their names, among which each value has one of its own.
type web struct {
	// next are the places that have the same kind as a place, directly.
	next map[string][]string
	// given are the kinds that a place has, directly; numeric are the places that are.
	given   map[string][]int
	numeric map[string]bool
	sizes   map[string]map[int]bool
	values  int
}

func columnName(pred string, i int) string { return fmt.Sprintf("column %d of %s", i, pred) }

func variableName(name string, rule int) string { return fmt.Sprintf("variable %s of %d", name, rule) }

func (w *web) same(a, b string) {
	w.next[a], w.next[b] = append(w.next[a], b), append(w.next[b], a)
}

func (w *web) give(a string, kind int) { w.given[a] = append(w.given[a], kind) }

func (w *web) occurs(pred string, size int) {
	if w.sizes[pred] == nil {
		w.sizes[pred] = map[int]bool{}
	}
	w.sizes[pred][size] = true
}

func (w *web) term(rule int, u api.Term) string {
	if u.Var != "" {
		return variableName(u.Var, rule)
	}
	w.values++
	s := fmt.Sprintf("value %d", w.values)
	w.give(s, u.Val.Kind)
	return s
}

func (w *web) atom(rule int, a api.Atom, fold int) {
	w.occurs(a.Pred, len(a.Args))
	for i, u := range a.Args {
		here, at := columnName(a.Pred, i), w.term(rule, u)
		of := fold
		if i < len(a.Args)-1 {
			of = 0
		}
		if of != api.Count && of != api.Mean {
			w.same(here, at)
		}
		if of == api.Count {
			w.give(here, api.Int)
		}
		if of == api.Mean {
			w.give(here, api.Flo)
		}
		if of == api.Sum || of == api.Mean {
			w.numeric[at] = true
		}
	}
}

func (w *web) literal(rule int, l api.Literal) {
	if l.Kind == api.Holds || l.Kind == api.Fails {
		w.atom(rule, l.Atom, 0)
		return
	}
	a, b := w.term(rule, l.A), w.term(rule, l.B)
	w.same(a, b)
	if l.Kind == api.Let {
		c := w.term(rule, l.C)
		w.same(b, c)
		w.numeric[a], w.numeric[b], w.numeric[c] = true, true, true
	}
	for _, s := range l.Path {
		if s.Label != "" {
			w.occurs(s.Label, 2)
			w.same(a, columnName(s.Label, 0))
			w.same(columnName(s.Label, 1), b)
		}
	}
}

// reached returns the kinds that are given to the places that one reaches, and whether one of those is numeric.
func (w *web) reached(from string) (kinds map[int]bool, numeric bool) {
	kinds = map[int]bool{}
	seen, left := map[string]bool{from: true}, []string{from}
	for len(left) > 0 {
		a := left[0]
		left = left[1:]
		numeric = numeric || w.numeric[a]
		for _, k := range w.given[a] {
			kinds[k] = true
		}
		for _, b := range w.next[a] {
			if !seen[b] {
				seen[b] = true
				left = append(left, b)
			}
		}
	}
	return kinds, numeric
}

func newWeb(p api.Program) *web {
	w := &web{next: map[string][]string{}, given: map[string][]int{}, numeric: map[string]bool{}, sizes: map[string]map[int]bool{}}
	for i, x := range p.Rules {
		w.atom(i, x.Head, x.Fold)
		for _, l := range x.Body {
			w.literal(i, l)
		}
	}
	w.atom(-1, p.Query, 0)
	return w
}

// defined returns in short what Kinds must return for a valid program.
func defined(p api.Program) string {
	w := newWeb(p)
	for _, sizes := range w.sizes {
		if len(sizes) > 1 {
			return "arity"
		}
	}
	for _, places := range []map[string]bool{keys(w.next), keys(w.given), w.numeric} {
		for a := range places {
			if kinds, numeric := w.reached(a); len(kinds) > 1 || numeric && kinds[api.Sym] {
				return "type"
			}
		}
	}
	var l []Pred
	for _, name := range slices.Sorted(maps.Keys(w.sizes)) {
		x := Pred{Name: name}
		for size := range w.sizes[name] {
			x.Kinds = make([]int, size)
		}
		for i := range x.Kinds {
			kinds, _ := w.reached(columnName(name, i))
			for k := range kinds {
				x.Kinds[i] = k
			}
		}
		l = append(l, x)
	}
	return told(l, api.OK)
}

func keys[T any](m map[string]T) map[string]bool {
	l := map[string]bool{}
	for k := range m {
		l[k] = true
	}
	return l
}

// kindOf returns the kind of a place or a value if the places have these kinds, by their numbers.
type kindOf func(kinds []int) int

// conditions are what must hold for the kinds of the places of a program.
type conditions struct {
	numbers map[string]int
	all     []func(kinds []int) bool
}

func (c *conditions) place(name string) kindOf {
	n, ok := c.numbers[name]
	if !ok {
		n = len(c.numbers)
		c.numbers[name] = n
	}
	return func(kinds []int) int { return kinds[n] }
}

func (c *conditions) term(rule int, u api.Term) kindOf {
	if u.Var != "" {
		return c.place(variableName(u.Var, rule))
	}
	return func([]int) int { return u.Val.Kind }
}

// need adds the condition that all of them have kinds that go together.
func (c *conditions) need(together func(l []int) bool, all ...kindOf) {
	c.all = append(c.all, func(kinds []int) bool {
		var l []int
		for _, f := range all {
			l = append(l, f(kinds))
		}
		return together(l)
	})
}

func equal(l []int) bool { return slices.Min(l) == slices.Max(l) }

func equalNumbers(l []int) bool { return equal(l) && l[0] != api.Sym }

func (c *conditions) atom(rule int, a api.Atom, fold int) {
	for i, u := range a.Args {
		together := equal
		if i == len(a.Args)-1 {
			switch fold {
			case api.Count:
				together = func(l []int) bool { return l[0] == api.Int }
			case api.Sum:
				together = equalNumbers
			case api.Mean:
				together = func(l []int) bool { return l[0] == api.Flo && l[1] != api.Sym }
			}
		}
		c.need(together, c.place(columnName(a.Pred, i)), c.term(rule, u))
	}
}

func newConditions(p api.Program) *conditions {
	c := &conditions{numbers: map[string]int{}}
	for i, x := range p.Rules {
		c.atom(i, x.Head, x.Fold)
		for _, l := range x.Body {
			switch l.Kind {
			case api.Holds, api.Fails:
				c.atom(i, l.Atom, 0)
			case api.Compare:
				c.need(equal, c.term(i, l.A), c.term(i, l.B))
			case api.Let:
				c.need(equalNumbers, c.term(i, l.A), c.term(i, l.B), c.term(i, l.C))
			case api.Walk:
				all := []kindOf{c.term(i, l.A), c.term(i, l.B)}
				for _, s := range l.Path {
					if s.Label != "" {
						all = append(all, c.place(columnName(s.Label, 0)), c.place(columnName(s.Label, 1)))
					}
				}
				c.need(equal, all...)
			}
		}
	}
	c.atom(-1, p.Query, 0)
	return c
}

// byTrial returns in short what Kinds must return for a valid program whose predicates have one size each: a value determines a kind if no other one is possible. The places must be few.
func byTrial(p api.Program, sizes map[string]int) string {
	c := newConditions(p)
	possible := make([]map[int]bool, len(c.numbers))
	for i := range possible {
		possible[i] = map[int]bool{}
	}
	kinds, some := make([]int, len(c.numbers)), false
	var try func(i int)
	try = func(i int) {
		if i < len(kinds) {
			for kinds[i] = api.Int; kinds[i] <= api.Sym; kinds[i]++ {
				try(i + 1)
			}
			return
		}
		for _, f := range c.all {
			if !f(kinds) {
				return
			}
		}
		some = true
		for j, k := range kinds {
			possible[j][k] = true
		}
	}
	try(0)
	if !some {
		return "type"
	}
	var l []Pred
	for _, name := range slices.Sorted(maps.Keys(sizes)) {
		x := Pred{Name: name, Kinds: make([]int, sizes[name])}
		for i := range x.Kinds {
			of := possible[c.numbers[columnName(name, i)]]
			for k := range of {
				if len(of) == 1 {
					x.Kinds[i] = k
				}
			}
		}
		l = append(l, x)
	}
	return told(l, api.OK)
}

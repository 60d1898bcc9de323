package safe

import (
	"maps"
	"slices"

	"antecedent/api"
)

// set is a set of bound variables.
type set map[string]struct{}

// setOf returns the set of these variables.
func setOf(bound []string) set {
	b := set{}
	for _, name := range bound {
		b[name] = struct{}{}
	}
	return b
}

// list returns the variables in bytewise order.
func (b set) list() []string { return slices.Sorted(maps.Keys(b)) }

// bind adds the variables of l.
func (b set) bind(l api.Literal) {
	for _, t := range terms(l) {
		if t.Var != "" {
			b[t.Var] = struct{}{}
		}
	}
}

// have reports whether all of the terms are bound.
func (b set) have(all ...api.Term) bool {
	for _, t := range all {
		if _, ok := b[t.Var]; t.Var != "" && !ok {
			return false
		}
	}
	return true
}

// ready reports whether l can be evaluated as soon as these variables are bound.
func (b set) ready(l api.Literal) bool {
	switch l.Kind {
	case api.Fails:
		return b.have(terms(l)...)
	case api.Compare:
		// An = gives its unbound side the value of the other one.
		return b.have(l.A, l.B) || l.Op == "=" && (b.have(l.A) || b.have(l.B))
	case api.Let:
		return b.have(l.B, l.C)
	default:
		return true
	}
}

// terms returns all terms of l. Those that a valid literal of its kind leaves zero count as well.
func terms(l api.Literal) []api.Term {
	return slices.Concat(l.Atom.Args, []api.Term{l.A, l.B, l.C})
}

package turns

import (
	"antecedent/api"
	"antecedent/rel"
)

// relation has those operations of the relations of layer 5 that are used.
type relation interface {
	Put(x []api.Value) (bool, api.Errno)
	Has(x []api.Value) bool
	Len() int
	All() [][]api.Value
	Find(cols []int, vals []api.Value) [][]api.Value
	Arity() int
	Copy() *rel.Rel
}

// part is a part of the state, with the operations of its relation. Turns has parts as named fields: if it embedded a relation itself, its users could call Put, past the purse and the rounds.
type part struct{ relation }

// clone returns an independent part with the same indexes and tuples.
func (p part) clone() part {
	return part{p.Copy()}
}

// take adds the tuples of o.
func (p part) take(o part) {
	for _, x := range o.All() {
		p.Put(x)
	}
}

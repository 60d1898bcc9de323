package rel

import (
	"iter"
	"slices"

	"antecedent/api"
	"antecedent/btree"
	"antecedent/tuple"
)

// index is a tree together with its permutation.
type index struct {
	*btree.Tree
	perm []int
}

// newIndex returns an empty index with the permutation perm, or ErrArg if perm is not a permutation of arity numbers.
func newIndex(arity int, perm []int) (index, api.Errno) {
	if len(perm) != arity {
		return index{}, api.ErrArg
	}
	t, e := btree.New(perm)
	if e != api.OK {
		return index{}, e
	}
	return index{Tree: t, perm: slices.Clone(perm)}, api.OK
}

// leading returns how many of the first numbers of the permutation are in cols.
func (x index) leading(cols []int) int {
	count := 0
	for count < len(x.perm) && slices.Contains(cols, x.perm[count]) {
		count++
	}
	return count
}

// matching returns an iterator over the tuples that have the same values as want in the columns cols, in the order of the index. If the index fits the columns, the tree goes through these tuples only.
func (x index) matching(want []api.Value, cols []int) iter.Seq[[]api.Value] {
	head := tuple.Pick(want, x.perm[:x.leading(cols)])
	return func(yield func([]api.Value) bool) {
		for t := range x.From(head) {
			if tuple.Compare(t, want, cols) == 0 && !yield(t) {
				return
			}
		}
	}
}

// clone returns an independent index with the same permutation and tuples.
func (x index) clone() index {
	c, _ := newIndex(len(x.perm), x.perm)
	c.Merge(x.Tree)
	return c
}

package btree

import (
	"iter"
	"slices"

	"antecedent/api"
	"antecedent/tuple"
)

const (
	// least is how many tuples a node other than the root has at least; the bound on the levels rests on it.
	least = 3
	// most is how many tuples a node has at most: with one more, it has enough for two nodes and the tuple between them.
	most = 2 * least
)

// node has tuples in order and, unless it is a leaf, one kid more than tuples: those before, between and after them. A nil node is an empty one.
//
// A node is never changed once it is made: a tree that grows takes new nodes, while iterations go on along the old ones.
type node struct {
	tuples [][]api.Value
	kids   []*node
}

// kid returns the node ahead of the tuple with the given number, or nil if n is a leaf.
func (n *node) kid(at int) *node {
	if len(n.kids) == 0 {
		return nil
	}
	return n.kids[at]
}

// levels returns how many nodes lie above each other; all leaves are on the same level.
func (n *node) levels() int {
	count := 0
	for ; n != nil; n = n.kid(0) {
		count++
	}
	return count
}

// place returns how many tuples of n are before x by the columns cols, and whether the next one is equal to it.
func (n *node) place(x []api.Value, cols []int) (int, bool) {
	at, found := 0, false
searching:
	for ; at < len(n.tuples); at++ {
		switch tuple.Compare(n.tuples[at], x, cols) {
		case 0:
			found = true
			break searching
		case 1:
			break searching
		}
	}
	return at, found
}

// since returns an iterator over the tuples of n and of the nodes below it that are not before x by the columns cols, in order.
func (n *node) since(x []api.Value, cols []int) iter.Seq[[]api.Value] {
	return func(yield func([]api.Value) bool) { n.visit(x, cols, yield) }
}

// visit passes the tuples of since to yield, and reports whether it took all of them.
func (n *node) visit(x []api.Value, cols []int, yield func([]api.Value) bool) bool {
	if n == nil {
		return true
	}
	at, _ := n.place(x, cols)
	for ; at < len(n.tuples); at++ {
		if !n.kid(at).visit(x, cols, yield) || !yield(n.tuples[at]) {
			return false
		}
	}
	return n.kid(at).visit(x, cols, yield)
}

// with returns a node with x added to n or below it, and whether it was not present before. The node may have one tuple too many.
func (n *node) with(x []api.Value, perm []int) (*node, bool) {
	if n == nil {
		return &node{tuples: [][]api.Value{slices.Clone(x)}}, true
	}
	at, found := n.place(x, perm)
	if found {
		return n, false
	}
	if n.kid(at) == nil {
		return &node{tuples: slices.Concat(n.tuples[:at], [][]api.Value{slices.Clone(x)}, n.tuples[at:])}, true
	}
	kid, added := n.kid(at).with(x, perm)
	if !added {
		return n, false
	}
	return n.exchange(at, kid), true
}

// exchange returns a copy of n with another kid in the given place; if that one has a tuple too many, its two halves and the tuple between them.
func (n *node) exchange(at int, kid *node) *node {
	if len(kid.tuples) <= most {
		kids := slices.Clone(n.kids)
		kids[at] = kid
		return &node{tuples: n.tuples, kids: kids}
	}
	top := kid.split()
	return &node{
		tuples: slices.Concat(n.tuples[:at], top.tuples, n.tuples[at:]),
		kids:   slices.Concat(n.kids[:at], top.kids, n.kids[at+1:]),
	}
}

// split returns, for a node with one tuple too many, a node with the middle one and with both halves as its kids.
func (n *node) split() *node {
	left, right := &node{tuples: n.tuples[:least]}, &node{tuples: n.tuples[least+1:]}
	if len(n.kids) > 0 {
		left.kids, right.kids = n.kids[:least+1], n.kids[least+1:]
	}
	return &node{tuples: [][]api.Value{n.tuples[least]}, kids: []*node{left, right}}
}

// fewest returns how many tuples a tree with the given number of levels has at least: one in the root, and in the other nodes least each.
func fewest(levels int) int {
	places := 2
	for range levels - 1 {
		places *= least + 1
	}
	return places - 1
}

// sparse returns a root for the tuples l, in order, below which each node has least tuples; l has as many as fewest returns. The kids are equal parts of l, without the tuples between them.
func sparse(l [][]api.Value, parts int) *node {
	if len(l) < parts {
		return &node{tuples: slices.Clone(l)}
	}
	n, size := &node{}, (len(l)+1)/parts
	for end := size; end <= len(l)+1; end += size {
		n.kids = append(n.kids, sparse(l[end-size:end-1], least+1))
		if end <= len(l) {
			n.tuples = append(n.tuples, l[end-1])
		}
	}
	return n
}

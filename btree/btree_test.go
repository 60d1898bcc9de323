package btree

import (
	"iter"
	"math"
	"math/rand"
	"slices"
	"testing"

	"antecedent/api"
	"antecedent/tuple"
)

// ints is a tuple of integers.
func ints(l ...int64) []api.Value {
	x := make([]api.Value, len(l))
	for i, n := range l {
		x[i] = api.Value{Kind: api.Int, N: n}
	}
	return x
}

func newTree(t *testing.T, p []int, tuples ...[]api.Value) *Tree {
	t.Helper()
	x, e := New(p)
	if e != api.OK || x == nil {
		t.Fatalf("New(%v) is %v, %d", p, x, e)
	}
	for _, y := range tuples {
		put(t, x, y, true)
	}
	return x
}

func put(t *testing.T, x *Tree, y []api.Value, want bool) {
	t.Helper()
	size := x.Len()
	if added, e := x.Put(y); added != want || e != api.OK {
		t.Fatalf("Put(%v) is %t, %d", y, added, e)
	}
	if want {
		size++
	}
	if x.Len() != size {
		t.Fatalf("%d tuples after Put(%v), not %d", x.Len(), y, size)
	}
}

// merge merges and checks the number that is returned.
func merge(t *testing.T, x, o *Tree, want int) {
	t.Helper()
	size := x.Len()
	if n := x.Merge(o); n != want || x.Len() != size+want {
		t.Errorf("Merge is %d of %d tuples, not %d of %d", n, x.Len(), want, size+want)
	}
}

func sameTuples(a, b [][]api.Value) bool {
	return slices.EqualFunc(a, b, slices.Equal)
}

func checkIteration(t *testing.T, what string, s iter.Seq[[]api.Value], want [][]api.Value) {
	t.Helper()
	if got := slices.Collect(s); !sameTuples(got, want) {
		t.Fatalf("%s: %v, not %v", what, got, want)
	}
}

// inOrder is the definition of a tree's order: sorted by the picked values, without duplicates.
func inOrder(l [][]api.Value, p []int) [][]api.Value {
	l = slices.Clone(l)
	slices.SortFunc(l, func(a, b []api.Value) int { return tuple.Compare(a, b, p) })
	return slices.CompactFunc(l, slices.Equal)
}

// beginning is the definition of From: the tuples whose picked values begin with head, in the order that they have.
func beginning(l [][]api.Value, p []int, head []api.Value) [][]api.Value {
	var out [][]api.Value
	for _, x := range l {
		picked := tuple.Pick(x, p)
		if len(head) <= len(picked) && slices.Equal(picked[:len(head)], head) {
			out = append(out, x)
		}
	}
	return out
}

// bound is the number that P4.3 names, word by word.
func bound(n int) int {
	times := 0
	for m := (n + 1) / 2; m >= 4; m /= 4 {
		times++
	}
	return 1 + times
}

// checkNodes checks what makes a tree balanced: the numbers of tuples and kids, and that all leaves are on the given level.
func checkNodes(t *testing.T, n *node, fewest, level int) int {
	t.Helper()
	if len(n.tuples) < fewest || len(n.tuples) > most {
		t.Fatalf("a node has %d tuples", len(n.tuples))
	}
	if (level == 1) != (len(n.kids) == 0) || len(n.kids) > 0 && len(n.kids) != len(n.tuples)+1 {
		t.Fatalf("a node on level %d has %d tuples and %d kids", level, len(n.tuples), len(n.kids))
	}
	count := len(n.tuples)
	for _, kid := range n.kids {
		count += checkNodes(t, kid, least, level-1)
	}
	return count
}

func checkShape(t *testing.T, x *Tree) {
	t.Helper()
	if x.Len() == 0 {
		if x.Deep() != 0 {
			t.Fatalf("an empty tree has %d levels", x.Deep())
		}
		return
	}
	if x.Deep() < 1 || x.Deep() > bound(x.Len()) {
		t.Fatalf("%d tuples have %d levels; the bound is %d", x.Len(), x.Deep(), bound(x.Len()))
	}
	if n := checkNodes(t, x.root, 1, x.Deep()); n != x.Len() {
		t.Fatalf("the nodes have %d tuples, not %d", n, x.Len())
	}
}

// numbers are the tuples (0), (1), up to n of them.
func numbers(n int) [][]api.Value {
	var out [][]api.Value
	for i := range int64(n) {
		out = append(out, ints(i))
	}
	return out
}

// grid are the tuples (a, b) with a and b below n, by the order 1, 0.
func grid(n int) [][]api.Value {
	var out [][]api.Value
	for b := range int64(n) {
		for a := range int64(n) {
			out = append(out, ints(a, b))
		}
	}
	return out
}

func shuffled(r *rand.Rand, l [][]api.Value) [][]api.Value {
	l = slices.Clone(l)
	r.Shuffle(len(l), func(i, k int) { l[i], l[k] = l[k], l[i] })
	return l
}

func reversed(l [][]api.Value) [][]api.Value {
	l = slices.Clone(l)
	slices.Reverse(l)
	return l
}

// outsideIn takes the first, the last, the second, the last but one, and so on.
func outsideIn(l [][]api.Value) [][]api.Value {
	var out [][]api.Value
	for i := range l {
		if i%2 == 0 {
			out = append(out, l[i/2])
		} else {
			out = append(out, l[len(l)-1-i/2])
		}
	}
	return out
}

func TestNew(t *testing.T) {
	for _, p := range [][]int{nil, {}, {0}, {0, 1}, {1, 0}, {2, 0, 1}, {0, 1, 2, 3, 4, 5, 6, 7}, {7, 6, 5, 4, 3, 2, 1, 0}} {
		x := newTree(t, p)
		if x.Len() != 0 || x.Deep() != 0 || x.Has(make([]api.Value, len(p))) {
			t.Errorf("the tree by %v is not empty", p)
		}
		checkIteration(t, "All", x.All(), nil)
		checkIteration(t, "From", x.From(nil), nil)
	}
}

func TestNewByNoPermutation(t *testing.T) {
	for _, p := range [][]int{
		{1}, {-1}, {0, 0}, {1, 1}, {0, 2}, {1, 2}, {-1, 0}, {0, -1}, {0, 1, 1}, {0, 1, 3}, {1, 0, 3}, {3, 2, 1},
		{0, 1, 2, 3, 4, 5, 6, 6}, {0, 1, 2, 3, 4, 5, 6, 8}, {math.MaxInt}, {math.MinInt}, {0, 1 << 32},
	} {
		if x, e := New(p); x != nil || e != api.ErrArg {
			t.Errorf("New(%v) is %v, %d", p, x, e)
		}
	}
}

func TestNewByTooManyNumbers(t *testing.T) {
	r := rand.New(rand.NewSource(1))
	for _, n := range []int{api.MaxArity + 1, api.MaxArity + 2, 16, 1000} {
		if x, e := New(r.Perm(n)); x != nil || e != api.ErrArg {
			t.Errorf("New of a permutation of %d numbers is %v, %d", n, x, e)
		}
	}
}

func TestExampleOfTheChapter(t *testing.T) {
	x := newTree(t, []int{1, 0}, ints(1, 9), ints(2, 3))
	checkIteration(t, "All", x.All(), [][]api.Value{ints(2, 3), ints(1, 9)})
	checkIteration(t, "From", x.From(ints(3)), [][]api.Value{ints(2, 3)})
}

func TestPutAndHas(t *testing.T) {
	x := newTree(t, []int{0, 1}, ints(1, 2), ints(2, 1), ints(1, 1))
	for _, y := range [][]api.Value{ints(1, 2), ints(2, 1), ints(1, 1)} {
		if !x.Has(y) {
			t.Errorf("%v is not present", y)
		}
		put(t, x, y, false)
	}
	float, symbol := api.Value{Kind: api.Flo, N: 1}, api.Value{Kind: api.Sym, S: "a"}
	for _, y := range [][]api.Value{ints(2, 2), ints(0, 1), {float, float}, {symbol, symbol}, {{}, {}}, {{Kind: api.Int, N: 1, S: "a"}, {Kind: api.Int, N: 2}}} {
		if x.Has(y) {
			t.Errorf("%v is present", y)
		}
		put(t, x, y, true)
		put(t, x, y, false)
		if !x.Has(y) {
			t.Errorf("%v is not present after Put", y)
		}
	}
}

// A tuple may be found in any node, not only in a leaf.
func TestEveryTupleIsPutOnlyOnce(t *testing.T) {
	l := numbers(700)
	x := newTree(t, []int{0}, outsideIn(l)...)
	for i, y := range l {
		if !x.Has(y) || x.Has(ints(int64(i)+700)) || x.Has(ints(-1-int64(i))) {
			t.Fatalf("Has is wrong about %d, about it plus 700, or about -1 minus it", i)
		}
		deep := x.Deep()
		put(t, x, y, false)
		if x.Deep() != deep {
			t.Fatalf("%d levels, and %d after a Put of what is present", deep, x.Deep())
		}
	}
	checkIteration(t, "All", x.All(), l)
}

func TestTuplesOfTheWrongSize(t *testing.T) {
	for n := range api.MaxArity + 1 {
		var p []int
		for c := range n {
			p = append(p, c)
		}
		x := newTree(t, p, make([]api.Value, n))
		for size := range api.MaxArity + 3 {
			y := make([]api.Value, size)
			if x.Has(y) != (size == n) {
				t.Errorf("by %v, Has(%v) is %t", p, y, x.Has(y))
			}
			if size == n {
				put(t, x, y, false)
			} else if added, e := x.Put(y); added || e != api.ErrArg {
				t.Errorf("by %v, Put(%v) is %t, %d", p, y, added, e)
			}
			if x.Len() != 1 || x.Deep() != 1 {
				t.Errorf("by %v, %d tuples on %d levels after Put(%v)", p, x.Len(), x.Deep(), y)
			}
		}
	}
}

func TestTreeByTheEmptyPermutation(t *testing.T) {
	x := newTree(t, nil)
	if x.Has(nil) || x.Has([]api.Value{}) {
		t.Error("the empty tuple is present in an empty tree")
	}
	put(t, x, nil, true)
	put(t, x, []api.Value{}, false)
	put(t, x, nil, false)
	if !x.Has(nil) || !x.Has([]api.Value{}) || x.Len() != 1 || x.Deep() != 1 {
		t.Errorf("%d tuples on %d levels", x.Len(), x.Deep())
	}
	checkIteration(t, "All", x.All(), [][]api.Value{{}})
	checkIteration(t, "From of the empty head", x.From(nil), [][]api.Value{{}})
	checkIteration(t, "From of a head that is too long", x.From(ints(0)), nil)
	merge(t, x, newTree(t, []int{}, nil), 0)
	merge(t, newTree(t, nil), x, 1)
}

func TestFrom(t *testing.T) {
	p := []int{2, 0, 1}
	l := [][]api.Value{ints(1, 1, 5), ints(1, 2, 5), ints(2, 1, 5), ints(2, 9, 5), ints(0, 0, 7), ints(3, 4, 7), ints(0, 0, 9)}
	x := newTree(t, p, outsideIn(l)...)
	for _, c := range []struct {
		head []api.Value
		want [][]api.Value
	}{
		{nil, l},
		{[]api.Value{}, l},
		{ints(5), l[:4]},
		{ints(7), l[4:6]},
		{ints(9), l[6:]},
		{ints(5, 2), l[2:4]},
		{ints(5, 1), l[:2]},
		{ints(5, 2, 9), l[3:4]},
		{ints(9, 0, 0), l[6:]},
		{ints(4), nil},
		{ints(6), nil},
		{ints(10), nil},
		{ints(5, 0), nil},
		{ints(5, 3), nil},
		{ints(7, 1), nil},
		{ints(5, 2, 2), nil},
		{ints(9, 0, 1), nil},
		{ints(1, 1, 5), nil},
		{ints(5, 1, 1, 0), nil},
		{ints(5, 1, 1, 5, 1, 1, 5, 1, 1), nil},
		{[]api.Value{{}}, nil},
		{[]api.Value{{Kind: api.Flo, N: 5}}, nil},
		{[]api.Value{{Kind: api.Int, N: 5, S: "x"}}, nil},
	} {
		checkIteration(t, "From "+tuple.Text(c.head), x.From(c.head), c.want)
	}
}

// The tuples of a head may be one, some or all of many nodes.
func TestFromOverManyNodes(t *testing.T) {
	r := rand.New(rand.NewSource(2))
	p, l := []int{1, 0}, grid(30)
	x := newTree(t, p, shuffled(r, l)...)
	checkIteration(t, "All", x.All(), l)
	for b := int64(-1); b <= 30; b++ {
		checkIteration(t, "From one value", x.From(ints(b)), beginning(l, p, ints(b)))
		for a := int64(-1); a <= 30; a++ {
			checkIteration(t, "From two values", x.From(ints(b, a)), beginning(l, p, ints(b, a)))
		}
	}
	one := newTree(t, []int{0, 1})
	for i := range int64(500) {
		put(t, one, ints(7, i*3%500), true)
	}
	if n := len(slices.Collect(one.From(ints(7)))); n != 500 {
		t.Errorf("From yields %d of 500 tuples with the same value", n)
	}
	checkIteration(t, "From", one.From(ints(6)), nil)
	checkIteration(t, "From", one.From(ints(8)), nil)
}

// firstOf leaves the iteration after n tuples.
func firstOf(s iter.Seq[[]api.Value], n int) [][]api.Value {
	var out [][]api.Value
	for x := range s {
		out = append(out, x)
		if len(out) == n {
			break
		}
	}
	return out
}

func TestIterationsThatAreLeftEarly(t *testing.T) {
	l := grid(10)
	x := newTree(t, []int{1, 0}, l...)
	for n := 1; n <= len(l); n++ {
		if got := firstOf(x.All(), n); !sameTuples(got, l[:n]) {
			t.Fatalf("the first %d are %v", n, got)
		}
	}
	for n := 1; n <= 10; n++ {
		if got := firstOf(x.From(ints(4)), n); !sameTuples(got, l[40:40+n]) {
			t.Fatalf("the first %d from 4 are %v", n, got)
		}
	}
	checkIteration(t, "All after iterations that were left", x.All(), l)
}

// An iterator may be taken more than once, and begins anew each time.
func TestIteratorsThatAreTakenAgain(t *testing.T) {
	x := newTree(t, []int{0, 1}, ints(1, 1), ints(2, 1), ints(2, 2))
	all, from := x.All(), x.From(ints(2))
	firstOf(all, 2)
	firstOf(from, 1)
	for range 2 {
		checkIteration(t, "All", all, [][]api.Value{ints(1, 1), ints(2, 1), ints(2, 2)})
		checkIteration(t, "From", from, [][]api.Value{ints(2, 1), ints(2, 2)})
	}
	count := 0
	for range all {
		for range all {
			count++
		}
	}
	if count != 9 {
		t.Errorf("%d pairs of three tuples", count)
	}
	// The iteration begins with its loop, not with the call that returns the iterator.
	put(t, x, ints(2, 0), true)
	checkIteration(t, "All", all, [][]api.Value{ints(1, 1), ints(2, 0), ints(2, 1), ints(2, 2)})
	checkIteration(t, "From", from, [][]api.Value{ints(2, 0), ints(2, 1), ints(2, 2)})
}

// Each step of an iteration puts tuples before, around and behind it, so that its nodes are split and the tree gets deeper.
func TestTuplesThatArePutWhileAnIterationRuns(t *testing.T) {
	for size := range 130 {
		x, l := newTree(t, []int{0, 1}), [][]api.Value{}
		for i := range int64(size) {
			l = append(l, ints(7, i*100))
		}
		for _, y := range l {
			put(t, x, y, true)
		}
		for _, s := range []iter.Seq[[]api.Value]{x.All(), x.From(ints(7))} {
			present, got, next := slices.Collect(s), [][]api.Value{}, int64(x.Len())
			for y := range s {
				got = append(got, y)
				next++
				for _, z := range [][]api.Value{ints(6, next), ints(7, y[1].N+1), ints(7, y[1].N-1), ints(7, 1000000+next), ints(8, next)} {
					x.Put(z)
				}
			}
			if !sameTuples(got, present) {
				t.Fatalf("of %v, the iteration yields %v", present, got)
			}
			checkShape(t, x)
		}
	}
}

func TestTuplesThatArePutAfterTheIterationBegan(t *testing.T) {
	l := numbers(200)
	for n := 1; n <= len(l); n += 13 {
		x := newTree(t, []int{0}, l...)
		var got [][]api.Value
		for y := range x.All() {
			got = append(got, y)
			if len(got) == n {
				for i := range int64(2000) {
					put(t, x, ints(-1-i), true)
					put(t, x, ints(200+i), true)
				}
			}
		}
		if !sameTuples(got, l) || x.Len() != 4200 {
			t.Fatalf("with tuples put after %d of them, the iteration yields %v", n, got)
		}
	}
}

func TestPuttingWhatIsPresentWhileAnIterationRuns(t *testing.T) {
	l := numbers(100)
	x := newTree(t, []int{0}, l...)
	var got [][]api.Value
	for y := range x.All() {
		got = append(got, y)
		put(t, x, y, false)
		merge(t, x, x, 0)
	}
	if !sameTuples(got, l) {
		t.Errorf("the iteration yields %v", got)
	}
}

func TestMerge(t *testing.T) {
	x := newTree(t, []int{1, 0}, ints(1, 9), ints(2, 3), ints(5, 5))
	o := newTree(t, []int{0, 1}, ints(1, 9), ints(9, 1), ints(5, 5), ints(0, 0))
	merge(t, x, o, 2)
	merge(t, x, o, 0)
	checkIteration(t, "what was merged into", x.All(), [][]api.Value{ints(0, 0), ints(9, 1), ints(2, 3), ints(5, 5), ints(1, 9)})
	checkIteration(t, "what was merged", o.All(), [][]api.Value{ints(0, 0), ints(1, 9), ints(5, 5), ints(9, 1)})
	empty := newTree(t, []int{0, 1})
	merge(t, x, empty, 0)
	merge(t, empty, x, 5)
	merge(t, empty, o, 0)
	put(t, o, ints(4, 4), true)
	if empty.Has(ints(4, 4)) || x.Has(ints(4, 4)) {
		t.Error("a tuple put into a tree that was merged is present in the other one")
	}
	put(t, x, ints(3, 3), true)
	if o.Has(ints(3, 3)) || o.Len() != 5 {
		t.Error("a tuple put into the other tree is present in the one that was merged")
	}
}

func TestMergeOfATreeIntoItself(t *testing.T) {
	for _, n := range []int{0, 1, 6, 7, 31, 500} {
		l := numbers(n)
		x := newTree(t, []int{0}, l...)
		merge(t, x, x, 0)
		checkIteration(t, "All", x.All(), l)
		checkShape(t, x)
	}
}

func TestMergeOfTreesOfOtherSizes(t *testing.T) {
	one, two, three := newTree(t, []int{0}, numbers(50)...), newTree(t, []int{1, 0}, grid(5)...), newTree(t, []int{0, 1, 2}, ints(1, 2, 3))
	none := newTree(t, nil, nil)
	trees := []*Tree{none, one, two, three}
	for i, x := range trees {
		for k, o := range trees {
			if i != k {
				merge(t, x, o, 0)
			}
		}
	}
	checkIteration(t, "tuples of one value", one.All(), numbers(50))
	checkIteration(t, "tuples of two values", two.All(), grid(5))
	checkIteration(t, "tuples of three values", three.All(), [][]api.Value{ints(1, 2, 3)})
}

func TestMergeOfManyTuples(t *testing.T) {
	r := rand.New(rand.NewSource(3))
	p, l := []int{1, 0}, grid(25)
	for range 20 {
		a, b := shuffled(r, l)[:r.Intn(len(l)+1)], shuffled(r, l)[:r.Intn(len(l)+1)]
		x, y := newTree(t, p, a...), newTree(t, []int{0, 1}, b...)
		want := inOrder(slices.Concat(a, b), p)
		merge(t, x, y, len(want)-len(a))
		checkIteration(t, "both", x.All(), want)
		checkShape(t, x)
	}
}

// orders are ways to put the same tuples, by their names.
func orders(l [][]api.Value) map[string][][]api.Value {
	r := rand.New(rand.NewSource(4))
	return map[string][][]api.Value{
		"rising": l, "falling": reversed(l), "outside in": outsideIn(l), "inside out": reversed(outsideIn(l)),
		"mixed": shuffled(r, l), "mixed again": shuffled(r, l),
	}
}

func TestDeepIsWithinTheBound(t *testing.T) {
	for name, l := range orders(numbers(2200)) {
		x := newTree(t, []int{0})
		if x.Deep() != 0 {
			t.Fatalf("an empty tree has %d levels", x.Deep())
		}
		for _, y := range l {
			put(t, x, y, true)
			if x.Deep() < 1 || x.Deep() > bound(x.Len()) {
				t.Fatalf("%s: %d tuples have %d levels; the bound is %d", name, x.Len(), x.Deep(), bound(x.Len()))
			}
			if x.Len() < 600 || x.Len()%50 == 0 || x.Len() >= 2040 && x.Len() <= 2055 {
				checkShape(t, x)
			}
		}
	}
}

func TestTheBoundWhereItGrows(t *testing.T) {
	for n, want := range map[int]int{1: 1, 6: 1, 7: 2, 30: 2, 31: 3, 126: 3, 127: 4, 510: 4, 511: 5, 2046: 5, 2047: 6} {
		if bound(n) != want {
			t.Errorf("the bound for %d tuples is %d, not %d", n, bound(n), want)
		}
		for name, l := range orders(numbers(n)) {
			if x := newTree(t, []int{0}, l...); x.Deep() > want {
				t.Errorf("%s: %d tuples have %d levels, more than %d", name, n, x.Deep(), want)
			}
		}
	}
}

func TestDeepOfManyTuples(t *testing.T) {
	for name, l := range orders(grid(300)) {
		x := newTree(t, []int{0, 1}, l...)
		checkShape(t, x)
		if x.Len() != 90000 || x.Deep() != 8 {
			t.Errorf("%s: %d tuples have %d levels", name, x.Len(), x.Deep())
		}
	}
}

// After each Put, the trees of all orders have the same number of levels, although they have unlike tuples until the end.
func TestResultsDoNotDependOnTheOrder(t *testing.T) {
	p, l := []int{1, 0}, grid(24)
	var deep []int
	for name, put := range orders(l) {
		x := newTree(t, p)
		var levels []int
		for _, y := range put {
			x.Put(y)
			levels = append(levels, x.Deep())
		}
		if deep == nil {
			deep = levels
		}
		if !slices.Equal(levels, deep) {
			t.Errorf("%s: the levels are %v, not %v", name, levels, deep)
		}
		checkIteration(t, name, x.All(), l)
		for b := int64(-1); b <= 24; b++ {
			checkIteration(t, name, x.From(ints(b)), beginning(l, p, ints(b)))
		}
		for _, y := range l {
			if !x.Has(y) {
				t.Fatalf("%s: %v is not present", name, y)
			}
		}
		merge(t, x, newTree(t, p, ints(3, 3), ints(99, 99)), 1)
	}
}

func permutations(n int) [][]int {
	if n == 0 {
		return [][]int{{}}
	}
	var out [][]int
	for _, p := range permutations(n - 1) {
		for at := range n {
			out = append(out, slices.Insert(slices.Clone(p), at, n-1))
		}
	}
	return out
}

func TestSmallTreesOfAllOrders(t *testing.T) {
	for n := range 8 {
		for _, order := range permutations(n) {
			x := newTree(t, []int{0})
			for _, i := range order {
				put(t, x, ints(int64(i)), true)
				put(t, x, ints(int64(i)), false)
			}
			checkIteration(t, "All", x.All(), numbers(n))
			checkShape(t, x)
		}
	}
}

// values are of all kinds, valid and not: a tree takes all of them.
func values() []api.Value {
	return []api.Value{
		{}, {Kind: -1, S: "a"}, {Kind: api.Int, N: math.MinInt64}, {Kind: api.Int}, {Kind: api.Int, S: "x"}, {Kind: api.Int, N: math.MaxInt64},
		{Kind: api.Flo, N: -1}, {Kind: api.Flo}, {Kind: api.Sym, S: "a"}, {Kind: api.Sym, S: "ab"}, {Kind: api.Sym, S: "No"}, {Kind: 4, N: 2},
	}
}

func randomTuple(r *rand.Rand, n, kinds int) []api.Value {
	x := make([]api.Value, n)
	for i := range x {
		x[i] = values()[r.Intn(kinds)]
	}
	return x
}

// checkAgainst holds a tree against the tuples that it must have.
func checkAgainst(t *testing.T, r *rand.Rand, x *Tree, p []int, l [][]api.Value) {
	t.Helper()
	want := inOrder(l, p)
	if x.Len() != len(want) {
		t.Fatalf("by %v, %d tuples, not %d", p, x.Len(), len(want))
	}
	checkShape(t, x)
	checkIteration(t, "All", x.All(), want)
	for range 5 {
		y := randomTuple(r, len(p), len(values()))
		if len(want) > 0 && r.Intn(3) > 0 {
			y = want[r.Intn(len(want))]
		}
		if x.Has(y) != slices.ContainsFunc(want, func(z []api.Value) bool { return slices.Equal(y, z) }) {
			t.Fatalf("by %v, Has(%v) is %t", p, y, x.Has(y))
		}
		head := tuple.Pick(y, p)[:r.Intn(len(p)+1)]
		checkIteration(t, "From", x.From(head), beginning(want, p, head))
	}
}

func TestRandomTreesAreAsDefined(t *testing.T) {
	r := rand.New(rand.NewSource(5))
	for range 60 {
		p := r.Perm(r.Intn(api.MaxArity + 1))
		kinds := 1 + r.Intn(len(values()))
		x, l := newTree(t, p), [][]api.Value{}
		for range r.Intn(300) {
			y := randomTuple(r, len(p), kinds)
			put(t, x, y, !slices.ContainsFunc(l, func(z []api.Value) bool { return slices.Equal(y, z) }))
			l = append(l, y)
			if r.Intn(10) == 0 {
				checkAgainst(t, r, x, p, l)
			}
		}
		checkAgainst(t, r, x, p, l)
	}
}

func TestNilTrees(t *testing.T) {
	var none *Tree
	for _, x := range [][]api.Value{nil, {}, ints(1), ints(1, 2)} {
		if added, e := none.Put(x); added || e != api.ErrArg {
			t.Errorf("Put(%v) is %t, %d", x, added, e)
		}
		if none.Has(x) {
			t.Errorf("%v is present", x)
		}
		checkIteration(t, "From", none.From(x), nil)
	}
	if none.Len() != 0 || none.Deep() != 0 {
		t.Errorf("%d tuples, %d levels", none.Len(), none.Deep())
	}
	checkIteration(t, "All", none.All(), nil)
	x := newTree(t, []int{0, 1}, grid(5)...)
	if n := none.Merge(x); n != 0 {
		t.Errorf("%d tuples were merged into no tree", n)
	}
	if n := none.Merge(nil); n != 0 {
		t.Errorf("%d tuples of no tree were merged into no tree", n)
	}
	deep := x.Deep()
	merge(t, x, nil, 0)
	if x.Len() != 25 || x.Deep() != deep {
		t.Errorf("%d tuples on %d levels after merging no tree", x.Len(), x.Deep())
	}
}

func TestArgumentsAreNotKept(t *testing.T) {
	p := []int{1, 0}
	x, _ := New(p)
	p[0], p[1] = 0, 1
	y := ints(0, 0, 5)[:2]
	for a := range int64(5) {
		for b := range int64(5) {
			y[0], y[1] = ints(a)[0], ints(b)[0]
			put(t, x, y, true)
		}
	}
	y[0], y[1] = api.Value{Kind: api.Sym, S: "a"}, api.Value{}
	checkIteration(t, "All", x.All(), grid(5))
	head := ints(3)
	from := x.From(head)
	head[0] = ints(4)[0]
	checkIteration(t, "From", from, grid(5)[15:20])
}

func TestArgumentsAreNotModified(t *testing.T) {
	r := rand.New(rand.NewSource(6))
	p := []int{2, 0, 1}
	x := newTree(t, p)
	for range 500 {
		y := randomTuple(r, r.Intn(5), 4)
		old, head := slices.Clone(y), y[:r.Intn(len(y)+1)]
		x.Put(y)
		x.Has(y)
		for range x.From(head) {
		}
		if !slices.Equal(y, old) || !slices.Equal(p, []int{2, 0, 1}) {
			t.Fatalf("%v became %v, by %v", old, y, p)
		}
	}
}

// What an iteration yields may be changed, and appended to, without an effect on the tree.
func TestYieldedTuplesShareNoMemory(t *testing.T) {
	l := grid(9)
	x := newTree(t, []int{1, 0}, l...)
	spoil := func(s iter.Seq[[]api.Value]) {
		for y := range s {
			y[0], y[1] = api.Value{Kind: 9}, api.Value{Kind: 9}
			_ = append(y[:1], y[0], y[0], y[0])
		}
	}
	spoil(x.All())
	spoil(x.From(ints(4)))
	spoil(x.From(ints(4, 4)))
	checkIteration(t, "All", x.All(), l)
	kept := slices.Collect(x.From(ints(2)))
	kept[0][0] = api.Value{}
	if !sameTuples(kept[1:], l[19:27]) {
		t.Errorf("changing a tuple makes the others %v", kept[1:])
	}
	o := newTree(t, []int{0, 1})
	merge(t, o, x, len(l))
	spoil(o.All())
	checkIteration(t, "what was merged", x.All(), l)
}

func TestTreesAreIndependent(t *testing.T) {
	x, y := newTree(t, []int{0}, numbers(40)...), newTree(t, []int{0})
	merge(t, y, x, 40)
	for i := range int64(100) {
		put(t, x, ints(1000+i), true)
		put(t, y, ints(-1000-i), true)
	}
	checkIteration(t, "the first tree", slices.Values(firstOf(x.All(), 40)), numbers(40))
	if x.Has(ints(-1000)) || y.Has(ints(1000)) || x.Len() != 140 || y.Len() != 140 {
		t.Error("a tuple of one tree is present in the other one")
	}
}

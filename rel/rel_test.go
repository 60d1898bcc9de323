package rel

import (
	"math"
	"math/rand"
	"slices"
	"testing"

	"antecedent/api"
	"antecedent/value"
)

func integer(n int64) api.Value { return api.Value{Kind: api.Int, N: n} }

// ints is a tuple of integers.
func ints(l ...int64) []api.Value {
	t := make([]api.Value, len(l))
	for i, n := range l {
		t[i] = integer(n)
	}
	return t
}

func newRel(t *testing.T, arity int, perms [][]int, tuples ...[]api.Value) *Rel {
	t.Helper()
	r, e := New(arity, perms)
	if e != api.OK || r == nil {
		t.Fatalf("New(%d, %v) is %v, %d", arity, perms, r, e)
	}
	for _, x := range tuples {
		put(t, r, x, true)
	}
	return r
}

func put(t *testing.T, r *Rel, x []api.Value, want bool) {
	t.Helper()
	size := r.Len()
	if added, e := r.Put(x); added != want || e != api.OK {
		t.Fatalf("Put(%v) is %t, %d", x, added, e)
	}
	if want {
		size++
	}
	if r.Len() != size || !r.Has(x) {
		t.Fatalf("after Put(%v), there are %d tuples, not %d, and Has is %t", x, r.Len(), size, r.Has(x))
	}
}

func sameTuples(a, b [][]api.Value) bool {
	return slices.EqualFunc(a, b, slices.Equal)
}

func checkFind(t *testing.T, r *Rel, cols []int, vals []api.Value, want [][]api.Value) {
	t.Helper()
	if got := r.Find(cols, vals); !sameTuples(got, want) {
		t.Fatalf("Find(%v, %v) is %v, not %v", cols, vals, got, want)
	}
}

// checkAll checks everything that does not take columns.
func checkAll(t *testing.T, r *Rel, arity int, want [][]api.Value) {
	t.Helper()
	if got := r.All(); !sameTuples(got, want) || r.Len() != len(want) || r.Arity() != arity {
		t.Fatalf("All is %v, Len %d and Arity %d, of %v with the arity %d", got, r.Len(), r.Arity(), want, arity)
	}
	for _, x := range want {
		if !r.Has(x) {
			t.Fatalf("%v is not present", x)
		}
	}
	checkFind(t, r, nil, nil, want)
}

func checkUses(t *testing.T, r *Rel, cols []int, want int) {
	t.Helper()
	if got := r.Uses(cols); got != want {
		t.Errorf("Uses(%v) is %d, not %d", cols, got, want)
	}
}

// plainly is the definition of the plain order: value by value, from the first one on.
func plainly(l [][]api.Value) [][]api.Value {
	l = slices.Clone(l)
	slices.SortFunc(l, func(a, b []api.Value) int { return slices.CompareFunc(a, b, value.Compare) })
	return slices.CompactFunc(l, slices.Equal)
}

// sound is the definition of columns that a search may name: each exists, and none occurs twice.
func sound(arity int, cols []int) bool {
	for i, c := range cols {
		if c < 0 || c >= arity || slices.Contains(cols[:i], c) {
			return false
		}
	}
	return true
}

// using is the definition of Uses.
func using(arity int, perms [][]int, cols []int) int {
	if !sound(arity, cols) {
		return -1
	}
	sorted := slices.Sorted(slices.Values(cols))
	for number, p := range perms {
		if slices.Equal(slices.Sorted(slices.Values(p[:len(cols)])), sorted) {
			return number
		}
	}
	return -1
}

// finding is the definition of Find, of the tuples l in the plain order.
func finding(arity int, l [][]api.Value, cols []int, vals []api.Value) [][]api.Value {
	if len(cols) != len(vals) || !sound(arity, cols) {
		return nil
	}
	var out [][]api.Value
	for _, x := range l {
		same := true
		for i, c := range cols {
			same = same && x[c] == vals[i]
		}
		if same {
			out = append(out, x)
		}
	}
	return out
}

// sequences are all sequences of n numbers from low to high.
func sequences(n, low, high int) [][]int {
	if n == 0 {
		return [][]int{{}}
	}
	var out [][]int
	for _, s := range sequences(n-1, low, high) {
		for c := low; c <= high; c++ {
			out = append(out, append(slices.Clone(s), c))
		}
	}
	return out
}

// permutations are all permutations of n numbers.
func permutations(n int) [][]int {
	return slices.DeleteFunc(sequences(n, 0, n-1), func(p []int) bool { return !sound(n, p) })
}

// searches are all sequences of up to arity + 1 numbers: columns that exist or not, once or more than once, in any order.
func searches(arity int) [][]int {
	var out [][]int
	for n := range arity + 2 {
		out = append(out, sequences(n, -1, arity)...)
	}
	return out
}

// cube are the tuples of n values from 0 to size - 1, in the plain order.
func cube(n, size int) [][]api.Value {
	var out [][]api.Value
	for _, s := range sequences(n, 0, size-1) {
		x := make([]api.Value, n)
		for i, c := range s {
			x[i] = integer(int64(c))
		}
		out = append(out, x)
	}
	return out
}

func shuffled(random *rand.Rand, l [][]api.Value) [][]api.Value {
	l = slices.Clone(l)
	random.Shuffle(len(l), func(i, k int) { l[i], l[k] = l[k], l[i] })
	return l
}

func counting(n int) []int {
	p := []int{}
	for c := range n {
		p = append(p, c)
	}
	return p
}

func TestNew(t *testing.T) {
	for arity := range api.MaxArity + 1 {
		up := counting(arity)
		down := slices.Clone(up)
		slices.Reverse(down)
		for _, perms := range [][][]int{nil, {}, {up}, {down}, {up, down}, {down, up, down}} {
			r := newRel(t, arity, perms)
			checkAll(t, r, arity, nil)
			if r.Has(make([]api.Value, arity)) {
				t.Errorf("a new relation of the arity %d is not empty", arity)
			}
			checkUses(t, r, nil, min(len(perms), 1)-1)
		}
	}
}

func TestNewByWrongArities(t *testing.T) {
	for _, arity := range []int{-1, -2, -8, math.MinInt, api.MaxArity + 1, api.MaxArity + 2, 100, 1 << 32, math.MaxInt} {
		for _, perms := range [][][]int{nil, {}, {{}}, {{0}}, {counting(api.MaxArity)}, {counting(api.MaxArity + 1)}} {
			if r, e := New(arity, perms); r != nil || e != api.ErrArg {
				t.Errorf("New(%d, %v) is %v, %d", arity, perms, r, e)
			}
		}
	}
}

func TestNewByNoPermutation(t *testing.T) {
	for arity, wrong := range [][][]int{
		{{0}, {1}, {-1}, {0, 1}},
		{{}, nil, {1}, {-1}, {0, 0}, {0, 1}, {1, 0}, {math.MinInt}, {1 << 32}},
		{{}, {0}, {1}, {0, 0}, {1, 1}, {0, 2}, {2, 1}, {-1, 0}, {0, 1, 2}, {2, 1, 0}, {0, 1, 1}},
		{{}, {0}, {0, 1}, {1, 0}, {0, 1, 1}, {2, 2, 2}, {1, 2, 3}, {0, 1, -1}, {0, 1, math.MaxInt}, {3, 2, 1, 0}},
	} {
		for _, p := range wrong {
			right := counting(arity)
			for _, perms := range [][][]int{{p}, {right, p}, {p, right}, {right, right, p, right}} {
				if r, e := New(arity, perms); r != nil || e != api.ErrArg {
					t.Errorf("New(%d, %v) is %v, %d", arity, perms, r, e)
				}
			}
		}
	}
}

// Every sequence of up to four numbers is held against the definition.
func TestNewBySequences(t *testing.T) {
	for n := range 5 {
		for _, p := range sequences(n, -1, n) {
			for arity := range 5 {
				right := n == arity && sound(n, p)
				r, e := New(arity, [][]int{p})
				if right != (e == api.OK) || right != (r != nil) || !right && e != api.ErrArg {
					t.Errorf("New(%d, [%v]) is %v, %d", arity, p, r, e)
				}
			}
		}
	}
}

func TestExampleOfTheChapter(t *testing.T) {
	r := newRel(t, 2, [][]int{{1, 0}})
	checkUses(t, r, []int{1}, 0)
	checkUses(t, r, []int{0}, -1)
}

func TestPutAndHas(t *testing.T) {
	for _, perms := range [][][]int{nil, {{0, 1}}, {{1, 0}}, {{1, 0}, {0, 1}, {1, 0}}} {
		r := newRel(t, 2, perms, ints(2, 1), ints(1, 2), ints(1, 1))
		for _, x := range [][]api.Value{ints(1, 2), ints(2, 1), ints(1, 1)} {
			put(t, r, x, false)
		}
		float, symbol := api.Value{Kind: api.Flo, N: 1}, api.Value{Kind: api.Sym, S: "a"}
		for _, x := range [][]api.Value{ints(2, 2), ints(0, 1), {float, float}, {symbol, symbol}, {integer(1), symbol}, {{}, {}}} {
			if r.Has(x) {
				t.Errorf("by %v, %v is present", perms, x)
			}
			put(t, r, x, true)
			put(t, r, x, false)
		}
		checkAll(t, r, 2, [][]api.Value{{{}, {}}, ints(0, 1), ints(1, 1), ints(1, 2), {integer(1), symbol}, ints(2, 1), ints(2, 2), {float, float}, {symbol, symbol}})
	}
}

func TestTuplesOfTheWrongSize(t *testing.T) {
	for arity := range api.MaxArity + 1 {
		for _, perms := range [][][]int{nil, {counting(arity)}} {
			one := make([]api.Value, arity)
			r := newRel(t, arity, perms, one)
			for size := range api.MaxArity + 3 {
				x := make([]api.Value, size)
				if r.Has(x) != (size == arity) {
					t.Errorf("with the arity %d, Has(%v) is %t", arity, x, r.Has(x))
				}
				if size == arity {
					put(t, r, x, false)
				} else if added, e := r.Put(x); added || e != api.ErrArg {
					t.Errorf("with the arity %d, Put(%v) is %t, %d", arity, x, added, e)
				}
				checkAll(t, r, arity, [][]api.Value{one})
			}
		}
	}
}

// checkIndexes checks that every index has every tuple, in its own order.
func checkIndexes(t *testing.T, r *Rel, perms [][]int, want [][]api.Value) {
	t.Helper()
	if len(r.indexes) != len(perms) {
		t.Fatalf("%d indexes, not %d", len(r.indexes), len(perms))
	}
	for number, x := range r.indexes {
		got := slices.Collect(x.All())
		if !slices.Equal(x.perm, perms[number]) || x.Len() != len(want) || !sameTuples(plainly(got), plainly(want)) {
			t.Fatalf("the index %d, %v, has %v, not %v", number, x.perm, got, want)
		}
		first := func(a, b []api.Value) int { return value.Compare(a[x.perm[0]], b[x.perm[0]]) }
		if r.Arity() > 0 && !slices.IsSortedFunc(got, first) {
			t.Fatalf("the index %d, %v, has the order %v", number, x.perm, got)
		}
	}
}

func TestEveryIndexHasEveryTuple(t *testing.T) {
	l := shuffled(rand.New(rand.NewSource(1)), cube(3, 4))
	perms := permutations(3)
	perms = append(perms, perms[2], perms[2])
	r := newRel(t, 3, perms)
	for i, x := range l {
		put(t, r, x, true)
		put(t, r, x, false)
		r.Put(x[:2])
		checkIndexes(t, r, perms, l[:i+1])
	}
	checkIndexes(t, r.Copy(), perms, l)
}

func TestRelationsOfTheArity0(t *testing.T) {
	for _, perms := range [][][]int{nil, {nil}, {{}}, {{}, nil, {}}} {
		r := newRel(t, 0, perms)
		checkAll(t, r, 0, nil)
		if r.Has(nil) || r.Has([]api.Value{}) {
			t.Error("the empty tuple is present in an empty relation")
		}
		put(t, r, nil, true)
		put(t, r, []api.Value{}, false)
		put(t, r, nil, false)
		checkAll(t, r, 0, [][]api.Value{{}})
		checkAll(t, r.Copy(), 0, [][]api.Value{{}})
		checkFind(t, r, []int{}, []api.Value{}, [][]api.Value{{}})
		checkFind(t, r, []int{0}, ints(0), nil)
		checkFind(t, r, []int{0}, nil, nil)
		checkFind(t, r, nil, ints(0), nil)
		checkUses(t, r, nil, min(len(perms), 1)-1)
		checkUses(t, r, []int{}, min(len(perms), 1)-1)
		checkUses(t, r, []int{0}, -1)
		checkUses(t, r, []int{-1}, -1)
	}
}

func TestUses(t *testing.T) {
	r := newRel(t, 4, [][]int{{3, 1, 0, 2}, {1, 3, 2, 0}, {1, 0, 2, 3}, {1, 3, 2, 0}, {0, 1, 2, 3}})
	for _, c := range []struct {
		cols []int
		want int
	}{
		{nil, 0},
		{[]int{}, 0},
		{[]int{0}, 4},
		{[]int{1}, 1},
		{[]int{2}, -1},
		{[]int{3}, 0},
		{[]int{1, 3}, 0},
		{[]int{3, 1}, 0},
		{[]int{0, 1}, 2},
		{[]int{1, 0}, 2},
		{[]int{0, 2}, -1},
		{[]int{2, 3}, -1},
		{[]int{0, 1, 3}, 0},
		{[]int{1, 2, 3}, 1},
		{[]int{3, 2, 1}, 1},
		{[]int{2, 1, 0}, 2},
		{[]int{0, 2, 3}, -1},
		{[]int{0, 1, 2, 3}, 0},
		{[]int{2, 3, 0, 1}, 0},
		{[]int{1, 1}, -1},
		{[]int{3, 1, 3}, -1},
		{[]int{3, 3, 1, 0}, -1},
		{[]int{3, 1, 0, 2, 3}, -1},
		{[]int{3, 1, 0, 2, 4}, -1},
		{[]int{4}, -1},
		{[]int{-1}, -1},
		{[]int{3, -1}, -1},
		{[]int{3, 4}, -1},
		{[]int{math.MinInt}, -1},
		{[]int{math.MaxInt}, -1},
		{[]int{3 + 1<<32}, -1},
		{make([]int, 1000), -1},
		{counting(9), -1},
	} {
		checkUses(t, r, c.cols, c.want)
		checkUses(t, r.Copy(), c.cols, c.want)
	}
}

// Whether an index fits does not depend on the tuples.
func TestUsesOfAllIndexesAndSearches(t *testing.T) {
	for arity := range 5 {
		for _, p := range permutations(arity) {
			perms := [][]int{p}
			r := newRel(t, arity, perms, make([]api.Value, arity))
			for _, cols := range searches(arity) {
				checkUses(t, r, cols, using(arity, perms, cols))
			}
		}
	}
	for _, p := range permutations(3) {
		for _, q := range permutations(3) {
			perms := [][]int{p, q}
			r := newRel(t, 3, perms)
			for _, cols := range searches(3) {
				checkUses(t, r, cols, using(3, perms, cols))
			}
		}
	}
}

func TestUsesOfNoIndexes(t *testing.T) {
	for arity := range 4 {
		r := newRel(t, arity, nil)
		for _, cols := range searches(arity) {
			checkUses(t, r, cols, -1)
		}
	}
}

func TestFind(t *testing.T) {
	l := [][]api.Value{ints(0, 0, 5), ints(0, 1, 7), ints(1, 0, 7), ints(1, 1, 5), ints(1, 2, 5), ints(2, 0, 5), ints(2, 0, 6)}
	for _, perms := range [][][]int{nil, {{2, 0, 1}}, {{1, 2, 0}}, {{1, 2, 0}, {2, 0, 1}}, {{0, 1, 2}}, permutations(3)} {
		r := newRel(t, 3, perms, shuffled(rand.New(rand.NewSource(2)), l)...)
		for _, c := range []struct {
			cols []int
			vals []api.Value
			want [][]api.Value
		}{
			{nil, nil, l},
			{[]int{}, []api.Value{}, l},
			{[]int{0}, ints(1), l[2:5]},
			{[]int{1}, ints(0), [][]api.Value{l[0], l[2], l[5], l[6]}},
			{[]int{2}, ints(5), [][]api.Value{l[0], l[3], l[4], l[5]}},
			{[]int{0, 2}, ints(1, 5), l[3:5]},
			{[]int{2, 0}, ints(5, 1), l[3:5]},
			{[]int{2, 0}, ints(1, 5), nil},
			{[]int{1, 2}, ints(0, 5), [][]api.Value{l[0], l[5]}},
			{[]int{0, 1}, ints(2, 0), l[5:]},
			{[]int{0, 1, 2}, ints(1, 0, 7), l[2:3]},
			{[]int{2, 0, 1}, ints(7, 1, 0), l[2:3]},
			{[]int{1, 2, 0}, ints(0, 7, 1), l[2:3]},
			{[]int{1, 2, 0}, ints(1, 0, 7), nil},
			{[]int{0}, ints(3), nil},
			{[]int{0}, ints(-1), nil},
			{[]int{1, 0}, ints(2, 2), nil},
			{[]int{2}, []api.Value{{Kind: api.Flo, N: 5}}, nil},
			{[]int{2}, []api.Value{{Kind: api.Int, N: 5, S: "a"}}, nil},
			{[]int{0}, []api.Value{{}}, nil},
		} {
			checkFind(t, r, c.cols, c.vals, c.want)
		}
		checkAll(t, r, 3, l)
	}
}

func TestFindByWrongColumns(t *testing.T) {
	zero := make([]api.Value, 1000)
	for _, perms := range [][][]int{nil, {{0, 1, 2}}, {{2, 1, 0}, {1, 0, 2}}} {
		r := newRel(t, 3, perms, zero[:3])
		for _, cols := range [][]int{
			{3}, {-1}, {4}, {0, 0}, {2, 2}, {0, 3}, {3, 0}, {0, -1}, {1, 0, 1}, {0, 1, 1}, {0, 1, 3}, {0, 1, 2, 0}, {0, 1, 2, 3}, {2, 1, 0, 2, 1, 0},
			counting(8), counting(9), counting(100), make([]int, 1000), {math.MinInt}, {math.MaxInt}, {1 << 32}, {0, 1 << 32},
		} {
			checkFind(t, r, cols, zero[:len(cols)], nil)
			checkFind(t, r, cols, nil, nil)
		}
	}
}

func TestFindByUnlikeNumbersOfColumnsAndValues(t *testing.T) {
	zero := make([]api.Value, 9)
	for _, perms := range [][][]int{nil, {{0, 1, 2}}, {{2, 1, 0}, {1, 0, 2}}} {
		r := newRel(t, 3, perms, zero[:3])
		for columns := range 4 {
			for _, cols := range [][]int{{0, 1, 2}, {2, 0, 1}} {
				for values := range 10 {
					var want [][]api.Value
					if columns == values {
						want = [][]api.Value{zero[:3]}
					}
					checkFind(t, r, cols[:columns], zero[:values], want)
				}
			}
		}
	}
}

// The same searches, with every single index, with none, and with all of them.
func TestFindDoesNotDependOnTheIndexes(t *testing.T) {
	random := rand.New(rand.NewSource(3))
	for arity, size := range []int{0, 20, 6, 4} {
		l := cube(arity, size)
		l = plainly(shuffled(random, l)[:(len(l)+1)/2])
		perms := permutations(arity)
		rels := []*Rel{newRel(t, arity, nil, shuffled(random, l)...), newRel(t, arity, perms, shuffled(random, l)...)}
		for _, p := range perms {
			rels = append(rels, newRel(t, arity, [][]int{p}, shuffled(random, l)...))
		}
		for _, cols := range searches(arity) {
			for _, x := range cube(len(cols), 3) {
				want := finding(arity, l, cols, x)
				for _, r := range rels {
					checkFind(t, r, cols, x, want)
				}
			}
		}
	}
}

// The tuples that are found may lie in many nodes of a tree, and be many.
func TestFindOfManyTuples(t *testing.T) {
	random := rand.New(rand.NewSource(4))
	l := cube(2, 40)
	for _, perms := range [][][]int{nil, {{0, 1}}, {{1, 0}}, {{1, 0}, {0, 1}}} {
		r := newRel(t, 2, perms, shuffled(random, l)...)
		checkAll(t, r, 2, l)
		for n := int64(-1); n <= 40; n++ {
			checkFind(t, r, []int{0}, ints(n), finding(2, l, []int{0}, ints(n)))
			checkFind(t, r, []int{1}, ints(n), finding(2, l, []int{1}, ints(n)))
			checkFind(t, r, []int{1, 0}, ints(n, 3), finding(2, l, []int{1, 0}, ints(n, 3)))
		}
	}
}

// values are of all kinds, valid and not, in their order: a relation takes all of them.
func values() []api.Value {
	return []api.Value{
		{Kind: -1, S: "a"}, {}, {Kind: api.Int, N: math.MinInt64}, {Kind: api.Int}, {Kind: api.Int, S: "x"}, {Kind: api.Int, N: math.MaxInt64},
		{Kind: api.Flo, N: -1}, {Kind: api.Flo}, {Kind: api.Sym, S: "No"}, {Kind: api.Sym, S: "a"}, {Kind: api.Sym, S: "ab"}, {Kind: 4, N: 2},
	}
}

func TestThePlainOrderOfAllKindsOfValues(t *testing.T) {
	for _, perms := range [][][]int{nil, {{1, 0}}, {{1, 0}, {0, 1}}} {
		r := newRel(t, 2, perms)
		var want [][]api.Value
		for _, a := range values() {
			for _, b := range values() {
				want = append(want, []api.Value{a, b})
			}
		}
		for _, x := range shuffled(rand.New(rand.NewSource(5)), want) {
			put(t, r, x, true)
		}
		checkAll(t, r, 2, want)
		for i, a := range values() {
			checkFind(t, r, []int{0}, []api.Value{a}, want[i*len(values()):(i+1)*len(values())])
			checkFind(t, r, []int{1}, []api.Value{a}, finding(2, want, []int{1}, []api.Value{a}))
		}
	}
}

func randomTuple(random *rand.Rand, n, kinds int) []api.Value {
	x := make([]api.Value, n)
	for i := range x {
		x[i] = values()[random.Intn(kinds)]
	}
	return x
}

// checkSearches holds random searches against the definitions.
func checkSearches(t *testing.T, random *rand.Rand, r *Rel, perms [][]int, l [][]api.Value) {
	t.Helper()
	arity := r.Arity()
	for range 20 {
		cols := random.Perm(arity)[:random.Intn(arity+1)]
		if random.Intn(10) == 0 {
			cols = append(cols, random.Intn(arity+3)-1)
		}
		x := randomTuple(random, arity, len(values()))
		if len(l) > 0 && random.Intn(3) > 0 {
			x = l[random.Intn(len(l))]
		}
		var vals []api.Value
		for _, c := range cols {
			vals = append(vals, append(x, randomTuple(random, 3, len(values()))...)[max(c, 0)])
		}
		checkUses(t, r, cols, using(arity, perms, cols))
		checkFind(t, r, cols, vals, finding(arity, l, cols, vals))
	}
}

func TestRandomRelationsAreAsDefined(t *testing.T) {
	random := rand.New(rand.NewSource(6))
	for range 100 {
		arity := random.Intn(api.MaxArity + 1)
		var perms [][]int
		for range random.Intn(4) {
			perms = append(perms, random.Perm(arity))
		}
		kinds := 1 + random.Intn(len(values()))
		r, l := newRel(t, arity, perms), [][]api.Value{}
		for range random.Intn(200) {
			x := randomTuple(random, arity, kinds)
			put(t, r, x, !slices.ContainsFunc(l, func(y []api.Value) bool { return slices.Equal(x, y) }))
			l = append(l, x)
		}
		l = plainly(l)
		checkAll(t, r, arity, l)
		checkIndexes(t, r, perms, l)
		checkSearches(t, random, r, perms, l)
		checkSearches(t, random, r.Copy(), perms, l)
	}
}

func TestCopiesGoOnByThemselves(t *testing.T) {
	for _, perms := range [][][]int{nil, {{1, 0}}, {{1, 0}, {1, 0}}, {{1, 0}, {0, 1}}} {
		l := cube(2, 5)
		r := newRel(t, 2, perms, l...)
		c := r.Copy()
		checkAll(t, c, 2, l)
		checkIndexes(t, c, perms, l)
		for i := range int64(100) {
			put(t, r, ints(4, 1000+i), true)
			checkAll(t, c, 2, l)
		}
		grown := r.All()
		for i := range int64(100) {
			put(t, c, ints(-1000+i, 4), true)
		}
		checkAll(t, r, 2, grown)
		checkIndexes(t, r, perms, grown)
		checkFind(t, r, []int{1}, ints(4), finding(2, grown, []int{1}, ints(4)))
		if c.Len() != 125 || r.Len() != 125 || c.Has(ints(4, 1000)) || r.Has(ints(-1000, 4)) {
			t.Errorf("by %v, a tuple of one relation is present in its copy, or the other way round", perms)
		}
		checkIndexes(t, c, perms, c.All())
		checkUses(t, c, []int{1}, r.Uses([]int{1}))
		checkUses(t, c, []int{0}, r.Uses([]int{0}))
	}
}

func TestCopiesOfEmptyRelationsAndOfCopies(t *testing.T) {
	for arity := range api.MaxArity + 1 {
		perms := [][]int{counting(arity)}
		r := newRel(t, arity, perms)
		c := r.Copy()
		checkAll(t, c, arity, nil)
		put(t, c, make([]api.Value, arity), true)
		checkAll(t, r, arity, nil)
		d := c.Copy()
		if added, e := d.Put(make([]api.Value, arity+1)); added || e != api.ErrArg {
			t.Errorf("Put of a tuple that is too long into a copy is %t, %d", added, e)
		}
		checkAll(t, d, arity, c.All())
		checkIndexes(t, d, perms, c.All())
	}
}

func TestNilRelations(t *testing.T) {
	var none *Rel
	for _, x := range [][]api.Value{nil, {}, ints(1), ints(1, 2)} {
		if added, e := none.Put(x); added || e != api.ErrArg {
			t.Errorf("Put(%v) is %t, %d", x, added, e)
		}
		if none.Has(x) {
			t.Errorf("%v is present", x)
		}
		checkFind(t, none, counting(len(x)), x, nil)
	}
	checkAll(t, none, 0, nil)
	checkFind(t, none, []int{0}, nil, nil)
	checkFind(t, none, []int{-1}, ints(1), nil)
	for _, cols := range searches(2) {
		checkUses(t, none, cols, -1)
	}
	if c := none.Copy(); c != nil {
		t.Errorf("the copy of no relation is %v", c)
	}
}

func TestArgumentsAreNotKept(t *testing.T) {
	perms := [][]int{{1, 0}, {0, 1}}
	r := newRel(t, 2, perms)
	perms[0][0], perms[0][1], perms[1] = 0, 1, nil
	checkUses(t, r, []int{1}, 0)
	checkUses(t, r, []int{0}, 1)
	x := ints(0, 0, 5)[:2]
	for a := range int64(5) {
		for b := range int64(5) {
			x[0], x[1] = integer(a), integer(b)
			put(t, r, x, true)
		}
	}
	x[0], x[1] = api.Value{Kind: api.Sym, S: "a"}, api.Value{}
	checkAll(t, r, 2, cube(2, 5))
	checkIndexes(t, r, [][]int{{1, 0}, {0, 1}}, cube(2, 5))
	c := r.Copy()
	checkUses(t, c, []int{1}, 0)
	checkUses(t, c, []int{0}, 1)
}

func TestArgumentsAreNotModified(t *testing.T) {
	random := rand.New(rand.NewSource(7))
	perms := [][]int{{2, 0, 1}, {1, 0, 2}}
	r := newRel(t, 3, perms)
	for range 500 {
		x, cols := randomTuple(random, random.Intn(5), 4), []int{2, 1, 0, 3}[:random.Intn(5)]
		oldTuple, oldCols := slices.Clone(x), slices.Clone(cols)
		r.Put(x)
		r.Has(x)
		r.Uses(cols)
		r.Find(cols, x[:min(len(x), len(cols))])
		if !slices.Equal(x, oldTuple) || !slices.Equal(cols, oldCols) {
			t.Fatalf("%v became %v, or %v became %v", oldTuple, x, oldCols, cols)
		}
	}
	if !slices.EqualFunc(perms, [][]int{{2, 0, 1}, {1, 0, 2}}, slices.Equal) {
		t.Errorf("the permutations became %v", perms)
	}
}

// What is returned may be changed, and appended to, without an effect on the relation or on the other tuples.
func TestResultsShareNoMemory(t *testing.T) {
	spoil := func(l [][]api.Value) {
		for i, x := range l {
			want := plainly(l[i+1:])
			x[0], x[1] = api.Value{Kind: 9}, api.Value{Kind: 9}
			_ = append(x[:1], x[0], x[0], x[0])
			if !sameTuples(l[i+1:], want) {
				t.Errorf("changing a tuple makes the next ones %v", l[i+1:])
			}
		}
		clear(l)
	}
	for _, perms := range [][][]int{nil, {{1, 0}}, {{1, 0}, {0, 1}}} {
		l := cube(2, 9)
		r := newRel(t, 2, perms, l...)
		c := r.Copy()
		spoil(r.All())
		spoil(r.Find(nil, nil))
		spoil(r.Find([]int{1}, ints(4)))
		spoil(r.Find([]int{0}, ints(4)))
		spoil(r.Find([]int{1, 0}, ints(4, 4)))
		spoil(c.All())
		checkAll(t, r, 2, l)
		checkIndexes(t, r, perms, l)
		checkAll(t, c, 2, l)
	}
}

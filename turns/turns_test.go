package turns

import (
	"math"
	"math/rand"
	"reflect"
	"slices"
	"testing"

	"antecedent/api"
	"antecedent/rel"
	"antecedent/value"
)

// ints is a tuple of integers.
func ints(l ...int64) []api.Value {
	x := make([]api.Value, len(l))
	for i, n := range l {
		x[i] = api.Value{Kind: api.Int, N: n}
	}
	return x
}

func counting(n int) []int {
	p := []int{}
	for c := range n {
		p = append(p, c)
	}
	return p
}

// newTurns is a relation of which the given tuples are pending.
func newTurns(t *testing.T, arity int, perms [][]int, p *Purse, pending ...[]api.Value) *Turns {
	t.Helper()
	x, e := New(arity, perms, p)
	if e != api.OK || x == nil {
		t.Fatalf("New(%d, %v, %v) is %v, %d", arity, perms, p, x, e)
	}
	for _, y := range pending {
		add(t, x, p, y)
	}
	return x
}

// add adds a tuple that is neither present nor pending, and checks that it is paid for.
func add(t *testing.T, x *Turns, p *Purse, y []api.Value) {
	t.Helper()
	left := p.Left
	if added, e := x.Add(y); !added || e != api.OK || p.Left != left-1 {
		t.Fatalf("Add(%v) is %t, %d, and leaves %d of %d", y, added, e, p.Left, left)
	}
}

// keep checks that a tuple is not added, with that error, and not paid for.
func keep(t *testing.T, x *Turns, p *Purse, y []api.Value, want api.Errno) {
	t.Helper()
	left := p.Left
	if added, e := x.Add(y); added || e != want || p.Left != left {
		t.Fatalf("Add(%v) is %t, %d, and leaves %d of %d", y, added, e, p.Left, left)
	}
}

func turn(t *testing.T, x *Turns, want bool) {
	t.Helper()
	if got := x.Turn(); got != want {
		t.Fatalf("Turn is %t", got)
	}
}

func sameTuples(a, b [][]api.Value) bool {
	return slices.EqualFunc(a, b, slices.Equal)
}

// plainly is the definition of the plain order.
func plainly(l [][]api.Value) [][]api.Value {
	return slices.SortedFunc(slices.Values(l), func(a, b []api.Value) int { return slices.CompareFunc(a, b, value.Compare) })
}

func contains(l [][]api.Value, x []api.Value) bool {
	return slices.ContainsFunc(l, func(y []api.Value) bool { return slices.Equal(x, y) })
}

// check checks which tuples are present and which of them are new.
func check(t *testing.T, x *Turns, present, latest [][]api.Value) {
	t.Helper()
	present, latest = plainly(present), plainly(latest)
	if got := x.All(); !sameTuples(got, present) || x.Len() != len(present) {
		t.Fatalf("All is %v and Len %d, of %v", got, x.Len(), present)
	}
	for _, y := range present {
		if !x.Has(y) {
			t.Fatalf("%v is not present", y)
		}
	}
	checkSearch(t, x, nil, nil, present, latest)
}

func checkSearch(t *testing.T, x *Turns, cols []int, vals []api.Value, present, latest [][]api.Value) {
	t.Helper()
	if got := x.Find(cols, vals); !sameTuples(got, present) {
		t.Fatalf("Find(%v, %v) is %v, not %v", cols, vals, got, present)
	}
	if got := x.New(cols, vals); !sameTuples(got, latest) {
		t.Fatalf("New(%v, %v) is %v, not %v", cols, vals, got, latest)
	}
}

// empty are purses that pay for nothing.
func empty() []int {
	return []int{0, -1, -100, math.MinInt}
}

func TestNew(t *testing.T) {
	for arity := range api.MaxArity + 1 {
		up := counting(arity)
		down := slices.Clone(up)
		slices.Reverse(down)
		for _, perms := range [][][]int{nil, {}, {up}, {down}, {up, down}, {down, up, down}} {
			for _, left := range append(empty(), 1, math.MaxInt) {
				p := &Purse{Left: left}
				x := newTurns(t, arity, perms, p)
				if x.Has(make([]api.Value, arity)) || p.Left != left {
					t.Errorf("a new relation of the arity %d is not empty, or paid for", arity)
				}
				check(t, x, nil, nil)
				turn(t, x, false)
				check(t, x, nil, nil)
			}
		}
	}
}

// refused checks that New returns ErrArg, whatever the purse.
func refused(t *testing.T, arity int, perms [][]int) {
	t.Helper()
	for _, p := range []*Purse{nil, {}, {Left: 5}} {
		if x, e := New(arity, perms, p); x != nil || e != api.ErrArg || p != nil && p.Left%5 != 0 {
			t.Errorf("New(%d, %v, %v) is %v, %d", arity, perms, p, x, e)
		}
	}
}

func TestNewByWrongArities(t *testing.T) {
	for _, arity := range []int{-1, -8, math.MinInt, api.MaxArity + 1, 100, 1 << 32, math.MaxInt} {
		for _, perms := range [][][]int{nil, {}, {{}}, {{0}}, {counting(api.MaxArity)}, {counting(api.MaxArity + 1)}} {
			refused(t, arity, perms)
		}
	}
}

func TestNewByNoPermutation(t *testing.T) {
	for arity, wrong := range [][][]int{
		{{0}, {1}, {-1}, {0, 1}},
		{{}, nil, {1}, {-1}, {0, 0}, {0, 1}, {math.MinInt}, {1 << 32}},
		{{}, {0}, {0, 0}, {1, 1}, {0, 2}, {2, 1}, {-1, 0}, {0, 1, 2}, {0, 1, 1}},
	} {
		for _, p := range wrong {
			right := counting(arity)
			for _, perms := range [][][]int{{p}, {right, p}, {p, right}, {right, right, p, right}} {
				refused(t, arity, perms)
			}
		}
	}
}

// New of layer 5 is the definition of what is refused.
func TestNewIsRefusedAsByLayer5(t *testing.T) {
	random := rand.New(rand.NewSource(1))
	for range 5000 {
		arity := random.Intn(5) - 1
		perms := make([][]int, random.Intn(3))
		for i := range perms {
			perms[i] = random.Perm(max(arity, 0))
			if random.Intn(4) == 0 {
				perms[i] = append(perms[i][:len(perms[i])/2], random.Intn(4)-1, random.Intn(4)-1)
			}
		}
		if _, e := rel.New(arity, perms); e != api.OK {
			refused(t, arity, perms)
		} else {
			check(t, newTurns(t, arity, perms, &Purse{}), nil, nil)
		}
	}
}

func TestNewWithoutAPurse(t *testing.T) {
	for arity := range api.MaxArity + 1 {
		for _, perms := range [][][]int{nil, {counting(arity)}, {counting(arity), counting(arity)}} {
			if x, e := New(arity, perms, nil); x != nil || e != api.ErrArg {
				t.Errorf("New(%d, %v, nil) is %v, %d", arity, perms, x, e)
			}
		}
	}
}

func TestExampleOfTheChapter(t *testing.T) {
	a := []api.Value{{Kind: api.Sym, S: "a"}}
	x := newTurns(t, 1, nil, &Purse{Left: 1}, a)
	turn(t, x, true)
	check(t, x, [][]api.Value{a}, [][]api.Value{a})
	turn(t, x, false)
	check(t, x, [][]api.Value{a}, nil)
}

func TestPendingTuplesAreNotPresent(t *testing.T) {
	for _, perms := range [][][]int{nil, {{0, 1}}, {{1, 0}}, {{1, 0}, {0, 1}, {1, 0}}} {
		p := &Purse{Left: 10}
		x := newTurns(t, 2, perms, p, ints(2, 1), ints(1, 2))
		for _, y := range [][]api.Value{ints(2, 1), ints(1, 2)} {
			if x.Has(y) {
				t.Errorf("%v is pending, and present", y)
			}
			checkSearch(t, x, []int{0, 1}, y, nil, nil)
		}
		check(t, x, nil, nil)
		turn(t, x, true)
		check(t, x, [][]api.Value{ints(1, 2), ints(2, 1)}, [][]api.Value{ints(1, 2), ints(2, 1)})
		add(t, x, p, ints(0, 0))
		if x.Has(ints(0, 0)) || x.Has(ints(1, 1)) {
			t.Error("a tuple that is pending, or was not added, is present")
		}
		check(t, x, [][]api.Value{ints(1, 2), ints(2, 1)}, [][]api.Value{ints(1, 2), ints(2, 1)})
		turn(t, x, true)
		check(t, x, [][]api.Value{ints(0, 0), ints(1, 2), ints(2, 1)}, [][]api.Value{ints(0, 0)})
	}
}

func TestTuplesOfTheWrongSize(t *testing.T) {
	for arity := range api.MaxArity + 1 {
		for _, left := range append(empty(), 1, 5) {
			p := &Purse{Left: 1}
			one := make([]api.Value, arity)
			x := newTurns(t, arity, [][]int{counting(arity)}, p, one)
			p.Left = left
			for round := range 3 {
				for size := range api.MaxArity + 3 {
					if size != arity {
						keep(t, x, p, make([]api.Value, size), api.ErrArg)
						if x.Has(make([]api.Value, size)) {
							t.Errorf("with the arity %d, a tuple of %d values is present", arity, size)
						}
					}
				}
				turn(t, x, round == 0)
				check(t, x, [][]api.Value{one}, [][]api.Value{one}[:max(1-round, 0)])
			}
		}
	}
}

func TestAddOfWhatIsPendingOrPresent(t *testing.T) {
	for _, left := range append(empty(), 1, 5, math.MaxInt) {
		p := &Purse{Left: 3}
		l := [][]api.Value{ints(1), ints(2), ints(3)}
		x := newTurns(t, 1, [][]int{{0}}, p, l...)
		p.Left = left
		for round := range 4 {
			for _, y := range l {
				keep(t, x, p, y, api.OK)
			}
			turn(t, x, round == 0)
			check(t, x, l, l[:max(3-3*round, 0)])
		}
	}
}

func TestAddWithNothingLeft(t *testing.T) {
	for _, left := range empty() {
		p := &Purse{Left: 2}
		x := newTurns(t, 1, [][]int{{0}}, p, ints(1))
		turn(t, x, true)
		add(t, x, p, ints(2))
		p.Left = left
		keep(t, x, p, ints(3), api.ErrBudget)
		keep(t, x, p, ints(3), api.ErrBudget)
		check(t, x, [][]api.Value{ints(1)}, [][]api.Value{ints(1)})
		turn(t, x, true)
		check(t, x, [][]api.Value{ints(1), ints(2)}, [][]api.Value{ints(2)})
		keep(t, x, p, ints(3), api.ErrBudget)
		turn(t, x, false)
		check(t, x, [][]api.Value{ints(1), ints(2)}, nil)
	}
}

func TestTheLastOfAPurse(t *testing.T) {
	p := &Purse{Left: 3}
	x := newTurns(t, 1, nil, p, ints(1), ints(2), ints(3))
	if p.Left != 0 {
		t.Fatalf("%d are left", p.Left)
	}
	keep(t, x, p, ints(4), api.ErrBudget)
	turn(t, x, true)
	check(t, x, [][]api.Value{ints(1), ints(2), ints(3)}, [][]api.Value{ints(1), ints(2), ints(3)})
}

func TestAPurseThatIsFilledAgain(t *testing.T) {
	p := &Purse{}
	x := newTurns(t, 1, [][]int{{0}}, p)
	keep(t, x, p, ints(1), api.ErrBudget)
	p.Left = 2
	add(t, x, p, ints(1))
	p.Left = -3
	keep(t, x, p, ints(2), api.ErrBudget)
	keep(t, x, p, ints(1), api.OK)
	p.Left++
	keep(t, x, p, ints(2), api.ErrBudget)
	p.Left = 1
	add(t, x, p, ints(2))
	keep(t, x, p, ints(3), api.ErrBudget)
	turn(t, x, true)
	p.Left = math.MaxInt
	add(t, x, p, ints(3))
	turn(t, x, true)
	check(t, x, [][]api.Value{ints(1), ints(2), ints(3)}, [][]api.Value{ints(3)})
}

func TestRelationsThatShareAPurse(t *testing.T) {
	p, other := &Purse{Left: 5}, &Purse{Left: 1}
	x, y := newTurns(t, 1, [][]int{{0}}, p), newTurns(t, 2, nil, p)
	twin, alone := newTurns(t, 1, nil, p), newTurns(t, 1, nil, other)
	add(t, x, p, ints(1))
	add(t, twin, p, ints(1))
	add(t, y, p, ints(1, 1))
	add(t, y, p, ints(1, 2))
	turn(t, y, true)
	keep(t, y, p, ints(1, 1), api.OK)
	keep(t, y, p, ints(1), api.ErrArg)
	add(t, x, p, ints(2))
	for _, one := range []*Turns{x, twin} {
		keep(t, one, p, ints(3), api.ErrBudget)
		keep(t, one, p, ints(1), api.OK)
	}
	keep(t, y, p, ints(2, 1), api.ErrBudget)
	add(t, alone, other, ints(3))
	check(t, x, nil, nil)
	turn(t, x, true)
	check(t, x, [][]api.Value{ints(1), ints(2)}, [][]api.Value{ints(1), ints(2)})
	check(t, twin, nil, nil)
	turn(t, y, false)
	check(t, y, [][]api.Value{ints(1, 1), ints(1, 2)}, nil)
	p.Left = 1
	add(t, twin, p, ints(2))
	keep(t, x, p, ints(4), api.ErrBudget)
	turn(t, twin, true)
	check(t, twin, [][]api.Value{ints(1), ints(2)}, [][]api.Value{ints(1), ints(2)})
}

func TestTurns(t *testing.T) {
	p := &Purse{Left: 10}
	x := newTurns(t, 1, [][]int{{0}}, p)
	turn(t, x, false)
	add(t, x, p, ints(2))
	add(t, x, p, ints(1))
	turn(t, x, true)
	check(t, x, [][]api.Value{ints(1), ints(2)}, [][]api.Value{ints(1), ints(2)})
	turn(t, x, false)
	check(t, x, [][]api.Value{ints(1), ints(2)}, nil)
	turn(t, x, false)
	check(t, x, [][]api.Value{ints(1), ints(2)}, nil)
	add(t, x, p, ints(0))
	turn(t, x, true)
	add(t, x, p, ints(3))
	turn(t, x, true)
	check(t, x, [][]api.Value{ints(0), ints(1), ints(2), ints(3)}, [][]api.Value{ints(3)})
	if p.Left != 6 {
		t.Errorf("after four tuples, %d of 10 are left", p.Left)
	}
}

// A tuple is new once, however often it is added.
func TestTheSameTupleInLaterRounds(t *testing.T) {
	p := &Purse{Left: 100}
	x := newTurns(t, 2, [][]int{{1, 0}}, p, ints(1, 2))
	turn(t, x, true)
	all := [][]api.Value{ints(1, 2)}
	for i := range int64(5) {
		keep(t, x, p, ints(1, 2), api.OK)
		turn(t, x, false)
		check(t, x, all, nil)
		checkSearch(t, x, []int{0, 1}, ints(1, 2), [][]api.Value{ints(1, 2)}, nil)
		keep(t, x, p, ints(1, 2), api.OK)
		add(t, x, p, ints(5, i))
		keep(t, x, p, ints(5, i), api.OK)
		turn(t, x, true)
		all = append(all, ints(5, i))
		check(t, x, all, [][]api.Value{ints(5, i)})
	}
}

func TestRelationsOfTheArity0(t *testing.T) {
	for _, perms := range [][][]int{nil, {nil}, {{}, {}}} {
		p := &Purse{Left: 1}
		x := newTurns(t, 0, perms, p)
		keep(t, x, p, ints(1), api.ErrArg)
		add(t, x, p, nil)
		keep(t, x, p, []api.Value{}, api.OK)
		if x.Has(nil) || x.Has([]api.Value{}) {
			t.Error("the empty tuple is pending, and present")
		}
		check(t, x, nil, nil)
		turn(t, x, true)
		check(t, x, [][]api.Value{{}}, [][]api.Value{{}})
		checkSearch(t, x, []int{0}, ints(1), nil, nil)
		checkSearch(t, x, nil, ints(1), nil, nil)
		keep(t, x, p, nil, api.OK)
		turn(t, x, false)
		check(t, x, [][]api.Value{{}}, nil)
	}
}

func TestSearches(t *testing.T) {
	old := [][]api.Value{ints(0, 0, 5), ints(1, 0, 7), ints(1, 2, 5)}
	latest := [][]api.Value{ints(0, 1, 7), ints(1, 1, 5), ints(2, 0, 5)}
	for _, perms := range [][][]int{nil, {{2, 0, 1}}, {{1, 2, 0}, {2, 0, 1}}, {{0, 1, 2}}, {{2, 1, 0}, {1, 0, 2}, {0, 2, 1}}} {
		p := &Purse{Left: 9}
		x := newTurns(t, 3, perms, p, old...)
		turn(t, x, true)
		for _, y := range latest {
			add(t, x, p, y)
		}
		turn(t, x, true)
		for _, y := range [][]api.Value{ints(0, 0, 0), ints(1, 1, 1), ints(1, 1, 7)} {
			add(t, x, p, y)
		}
		check(t, x, append(slices.Clone(old), latest...), latest)
		for _, c := range []struct {
			cols    []int
			vals    []api.Value
			present [][]api.Value
			latest  [][]api.Value
		}{
			{[]int{}, []api.Value{}, [][]api.Value{old[0], latest[0], old[1], latest[1], old[2], latest[2]}, latest},
			{[]int{0}, ints(1), [][]api.Value{old[1], latest[1], old[2]}, latest[1:2]},
			{[]int{0}, ints(2), latest[2:], latest[2:]},
			{[]int{0}, ints(3), nil, nil},
			{[]int{1}, ints(2), old[2:], nil},
			{[]int{2}, ints(5), [][]api.Value{old[0], latest[1], old[2], latest[2]}, latest[1:]},
			{[]int{2, 0}, ints(7, 0), latest[:1], latest[:1]},
			{[]int{2, 0}, ints(0, 7), nil, nil},
			{[]int{0, 1}, ints(1, 0), old[1:2], nil},
			{[]int{0, 1, 2}, ints(1, 1, 5), latest[1:2], latest[1:2]},
			{[]int{2, 0, 1}, ints(5, 1, 1), latest[1:2], latest[1:2]},
			{[]int{2, 0, 1}, ints(5, 1, 2), old[2:], nil},
			{[]int{1, 2, 0}, ints(1, 7, 1), nil, nil},
			{[]int{2}, []api.Value{{Kind: api.Flo, N: 5}}, nil, nil},
			{[]int{2}, []api.Value{{Kind: api.Int, N: 5, S: "a"}}, nil, nil},
		} {
			checkSearch(t, x, c.cols, c.vals, c.present, c.latest)
		}
	}
}

func TestSearchesByWrongColumns(t *testing.T) {
	zero := make([]api.Value, 100)
	for _, perms := range [][][]int{nil, {{0, 1, 2}}, {{2, 1, 0}, {1, 0, 2}}} {
		x := newTurns(t, 3, perms, &Purse{Left: 1}, zero[:3])
		turn(t, x, true)
		for _, cols := range [][]int{
			{3}, {-1}, {4}, {0, 0}, {2, 2}, {0, 3}, {3, 0}, {0, -1}, {1, 0, 1}, {0, 1, 1}, {0, 1, 3}, {0, 1, 2, 0}, {0, 1, 2, 3}, {2, 1, 0, 2, 1, 0},
			counting(8), counting(9), counting(100), {math.MinInt}, {math.MaxInt}, {1 << 32}, {0, 1 << 32},
		} {
			checkSearch(t, x, cols, zero[:len(cols)], nil, nil)
			checkSearch(t, x, cols, nil, nil, nil)
		}
		for columns := range 4 {
			for values := range 10 {
				var want [][]api.Value
				if columns == values {
					want = [][]api.Value{zero[:3]}
				}
				checkSearch(t, x, []int{2, 0, 1}[:columns], zero[:values], want, want)
			}
		}
	}
}

// Neither a nil relation nor one that New did not make has tuples.
func TestNilRelations(t *testing.T) {
	for _, none := range []*Turns{nil, {}} {
		for range 2 {
			for _, y := range [][]api.Value{nil, {}, ints(1), ints(1, 2), make([]api.Value, 9)} {
				if added, e := none.Add(y); added || e != api.ErrArg {
					t.Errorf("Add(%v) is %t, %d", y, added, e)
				}
				if none.Has(y) {
					t.Errorf("%v is present", y)
				}
				checkSearch(t, none, counting(len(y)), y, nil, nil)
			}
			check(t, none, nil, nil)
			checkSearch(t, none, []int{0}, nil, nil, nil)
			checkSearch(t, none, []int{-1}, ints(1), nil, nil)
			turn(t, none, false)
		}
	}
}

// What is promoted would be a way past the purse, and past the rounds.
func TestOnlyTheMethodsOfTheChapter(t *testing.T) {
	var names []string
	for m := range reflect.TypeFor[*Turns]().Methods() {
		names = append(names, m.Name)
	}
	if !slices.Equal(names, []string{"Add", "All", "Find", "Has", "Len", "New", "Turn"}) {
		t.Errorf("the methods are %v", names)
	}
}

func TestArgumentsAreNotKept(t *testing.T) {
	perms := [][]int{{1, 0}, {0, 1}}
	p := &Purse{Left: 100}
	x := newTurns(t, 2, perms, p)
	perms[0][0], perms[0][1], perms[1] = 0, 0, nil
	var want [][]api.Value
	y := ints(0, 0, 5)[:2]
	for a := range int64(5) {
		for b := range int64(5) {
			y[0].N, y[1].N = a, b
			add(t, x, p, y)
			want = append(want, ints(a, b))
		}
	}
	y[0], y[1] = api.Value{Kind: 9}, api.Value{Kind: 9}
	turn(t, x, true)
	check(t, x, want, want)
	y = ints(7, 7)
	add(t, x, p, y)
	turn(t, x, true)
	y[0], y[1] = api.Value{Kind: 9}, api.Value{Kind: 9}
	check(t, x, append(want, ints(7, 7)), [][]api.Value{ints(7, 7)})
	keep(t, x, p, ints(7, 7), api.OK)
	checkSearch(t, x, []int{1}, ints(3), [][]api.Value{ints(0, 3), ints(1, 3), ints(2, 3), ints(3, 3), ints(4, 3)}, nil)
}

func TestArgumentsAreNotModified(t *testing.T) {
	random := rand.New(rand.NewSource(2))
	perms := [][]int{{2, 0, 1}, {1, 0, 2}}
	p := &Purse{Left: 100}
	x := newTurns(t, 3, perms, p)
	for range 1000 {
		y, cols := randomTuple(random, random.Intn(5), 4), []int{2, 1, 0, 3}[:random.Intn(5)]
		oldTuple, oldCols := slices.Clone(y), slices.Clone(cols)
		x.Add(y)
		x.Has(y)
		x.Find(cols, y[:min(len(y), len(cols))])
		x.New(cols, y[:min(len(y), len(cols))])
		if random.Intn(10) == 0 {
			x.Turn()
		}
		if !slices.Equal(y, oldTuple) || !slices.Equal(cols, oldCols) {
			t.Fatalf("%v became %v, or %v became %v", oldTuple, y, oldCols, cols)
		}
	}
	if !slices.EqualFunc(perms, [][]int{{2, 0, 1}, {1, 0, 2}}, slices.Equal) {
		t.Errorf("the permutations became %v", perms)
	}
}

// spoil changes a result, and checks that no other tuple of it changes with it.
func spoil(t *testing.T, l [][]api.Value) {
	t.Helper()
	for i, x := range l {
		var want [][]api.Value
		for _, y := range l[i+1:] {
			want = append(want, slices.Clone(y))
		}
		x[0], x[1] = api.Value{Kind: 9}, api.Value{Kind: 9}
		_ = append(x, x[0], x[0])
		_ = append(x[:1], x[0], x[0], x[0])
		if !sameTuples(l[i+1:], want) {
			t.Errorf("changing a tuple makes the next ones %v", l[i+1:])
		}
	}
	clear(l)
}

func TestResultsShareNoMemory(t *testing.T) {
	for _, perms := range [][][]int{nil, {{1, 0}}, {{1, 0}, {0, 1}}} {
		p := &Purse{Left: 1000}
		x := newTurns(t, 2, perms, p)
		var all, latest [][]api.Value
		for a := range int64(9) {
			latest = nil
			for b := range int64(9) {
				add(t, x, p, ints(a, b))
				latest = append(latest, ints(a, b))
			}
			turn(t, x, true)
			all = append(all, latest...)
			for range 2 {
				spoil(t, x.All())
				spoil(t, x.Find(nil, nil))
				spoil(t, x.Find([]int{1}, ints(4)))
				spoil(t, x.Find([]int{0}, ints(a)))
				spoil(t, x.New(nil, nil))
				spoil(t, x.New([]int{0}, ints(a)))
				spoil(t, x.New([]int{1, 0}, ints(4, a)))
				check(t, x, all, latest)
			}
			for _, y := range all {
				keep(t, x, p, y, api.OK)
			}
		}
		turn(t, x, false)
		check(t, x, all, nil)
	}
}

// Results that were returned do not change with later rounds.
func TestResultsAreKept(t *testing.T) {
	p := &Purse{Left: 50}
	x := newTurns(t, 1, [][]int{{0}}, p, ints(1), ints(2))
	turn(t, x, true)
	all, found, latest := x.All(), x.Find(nil, nil), x.New(nil, nil)
	for n := range int64(40) {
		add(t, x, p, ints(-n))
		turn(t, x, true)
	}
	for _, l := range [][][]api.Value{all, found, latest} {
		if !sameTuples(l, [][]api.Value{ints(1), ints(2)}) {
			t.Errorf("a result became %v", l)
		}
	}
}

// state is the definition of a relation that grows in rounds, by lists.
type state struct {
	arity                    int
	present, latest, pending [][]api.Value
}

// want is what Add must return, and whether x becomes pending.
func (s *state) want(x []api.Value, left int) (bool, api.Errno) {
	switch {
	case len(x) != s.arity:
		return false, api.ErrArg
	case contains(s.present, x) || contains(s.pending, x):
		return false, api.OK
	case left < 1:
		return false, api.ErrBudget
	}
	return true, api.OK
}

func (s *state) turn() bool {
	s.present = append(s.present, s.pending...)
	s.latest, s.pending = s.pending, nil
	return len(s.latest) > 0
}

// having are the tuples of l with those values in those columns.
func having(l [][]api.Value, cols []int, vals []api.Value) [][]api.Value {
	return plainly(slices.DeleteFunc(slices.Clone(l), func(x []api.Value) bool {
		for i, c := range cols {
			if x[c] != vals[i] {
				return true
			}
		}
		return false
	}))
}

// randomTuple has n values of all kinds, valid and not: a relation takes all of them.
func randomTuple(random *rand.Rand, n, kinds int) []api.Value {
	values := []api.Value{
		{Kind: api.Int, N: 1}, {Kind: api.Flo, N: 1}, {Kind: api.Sym, S: "a"}, {Kind: api.Int, N: -1}, {Kind: api.Sym, S: "ab"},
		{Kind: api.Int, N: math.MinInt64}, {Kind: api.Int, N: math.MaxInt64}, {Kind: api.Flo, N: -1}, {}, {Kind: -1, S: "a"}, {Kind: 4, N: 2}, {Kind: api.Int, S: "x"},
	}
	x := make([]api.Value, n)
	for i := range x {
		x[i] = values[random.Intn(min(kinds, len(values)))]
	}
	return x
}

// addSome adds random tuples, most of them of the right size, and holds each against the definition.
func addSome(t *testing.T, random *rand.Rand, x *Turns, s *state, p *Purse, kinds int) {
	t.Helper()
	for range random.Intn(12) {
		size := s.arity
		if random.Intn(8) == 0 {
			size = random.Intn(api.MaxArity + 2)
		}
		y := randomTuple(random, size, kinds)
		added, e := s.want(y, p.Left)
		if !added {
			keep(t, x, p, y, e)
			continue
		}
		add(t, x, p, y)
		s.pending = append(s.pending, y)
	}
}

func checkSome(t *testing.T, random *rand.Rand, x *Turns, s *state, kinds int) {
	t.Helper()
	check(t, x, s.present, s.latest)
	for range 4 {
		y := randomTuple(random, s.arity, kinds)
		if x.Has(y) != contains(s.present, y) {
			t.Fatalf("Has(%v) is %t", y, x.Has(y))
		}
		cols := random.Perm(s.arity)[:random.Intn(s.arity+1)]
		var vals []api.Value
		for _, c := range cols {
			vals = append(vals, y[c])
		}
		checkSearch(t, x, cols, vals, having(s.present, cols, vals), having(s.latest, cols, vals))
	}
}

// Several relations with one purse, which is filled now and then.
func TestRandomRelationsAreAsDefined(t *testing.T) {
	random := rand.New(rand.NewSource(3))
	for range 60 {
		p := &Purse{Left: random.Intn(30)}
		relations, states := make([]*Turns, 3), make([]state, 3)
		for i := range relations {
			arity := random.Intn(api.MaxArity + 1)
			var perms [][]int
			for range random.Intn(3) {
				perms = append(perms, random.Perm(arity))
			}
			relations[i], states[i] = newTurns(t, arity, perms, p), state{arity: arity}
		}
		kinds := 1 + random.Intn(6)
		for range 40 {
			i := random.Intn(len(relations))
			addSome(t, random, relations[i], &states[i], p, kinds)
			if random.Intn(2) == 0 {
				turn(t, relations[i], states[i].turn())
			}
			if random.Intn(10) == 0 {
				p.Left = random.Intn(60) - 10
			}
			for i, x := range relations {
				checkSome(t, random, x, &states[i], kinds)
			}
		}
	}
}

// The ways along the edges of a circle, round by round: as in semi-naive evaluation, only new ones are made longer.
func TestEveryTupleIsNewInOneRound(t *testing.T) {
	const size = 30
	for _, perms := range [][][]int{nil, {{1, 0}}, {{0, 1}, {1, 0}}} {
		p := &Purse{Left: size + size*size}
		edges, ways := newTurns(t, 2, perms, p), newTurns(t, 2, perms, p)
		for n := range int64(size) {
			add(t, edges, p, ints(n, (n+1)%size))
			add(t, ways, p, ints(n, (n+1)%size))
		}
		edges.Turn()
		var seen [][]api.Value
		rounds := 0
		for ; rounds <= size && ways.Turn(); rounds++ {
			for _, way := range ways.New(nil, nil) {
				if contains(seen, way) {
					t.Fatalf("%v is new again in round %d", way, rounds)
				}
				seen = append(seen, way)
				for _, edge := range edges.Find([]int{0}, way[1:]) {
					ways.Add([]api.Value{way[0], edge[1]})
				}
			}
		}
		check(t, ways, seen, nil)
		if rounds != size || len(seen) != size*size || p.Left != 0 {
			t.Errorf("%d ways after %d rounds, and %d are left", len(seen), rounds, p.Left)
		}
	}
}

func TestManyTuples(t *testing.T) {
	const size = 40
	random := rand.New(rand.NewSource(4))
	p := &Purse{Left: size * size}
	x := newTurns(t, 2, [][]int{{1, 0}}, p)
	var all [][]api.Value
	for a := range int64(size) {
		var latest [][]api.Value
		for _, b := range random.Perm(size) {
			add(t, x, p, ints((a*7)%size, int64(b)))
			latest = append(latest, ints((a*7)%size, int64(b)))
		}
		turn(t, x, true)
		all = append(all, latest...)
		check(t, x, all, latest)
		checkSearch(t, x, []int{1}, ints(3), having(all, []int{1}, ints(3)), [][]api.Value{ints((a*7)%size, 3)})
	}
	keep(t, x, p, ints(size, 0), api.ErrBudget)
}

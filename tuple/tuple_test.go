package tuple

import (
	"math"
	"math/rand"
	"slices"
	"strconv"
	"strings"
	"testing"

	"antecedent/api"
	"antecedent/value"
)

func integer(n int64) api.Value  { return api.Value{Kind: api.Int, N: n} }
func floating(n int64) api.Value { return api.Value{Kind: api.Flo, N: n} }
func symbol(s string) api.Value  { return api.Value{Kind: api.Sym, S: s} }

func integers(l ...int64) []api.Value {
	var out []api.Value
	for _, n := range l {
		out = append(out, integer(n))
	}
	return out
}

// mixed are values of all kinds in their order, valid and not; the columns of the tuples under test.
func mixed() []api.Value {
	return []api.Value{
		{Kind: -1, S: "a"}, {}, integer(math.MinInt64), integer(0), {Kind: api.Int, S: "x"}, integer(math.MaxInt64),
		floating(-1), floating(0), floating(math.MaxInt64), symbol(""), symbol("Z"), symbol("a"), symbol("ab"), {Kind: api.Sym, N: 1, S: "a"}, {Kind: 4},
	}
}

// sequences are all sequences of n numbers from low to high.
func sequences(n, low, high int) [][]int {
	if n == 0 {
		return [][]int{{}}
	}
	var out [][]int
	for _, s := range sequences(n-1, low, high) {
		for c := low; c <= high; c++ {
			out = append(out, append(slices.Clone(s), c))
		}
	}
	return out
}

// permutation is the definition: each number from 0 to n - 1 stands in p exactly once.
func permutation(p []int) bool {
	for n := range p {
		count := 0
		for _, c := range p {
			if c == n {
				count++
			}
		}
		if count != 1 {
			return false
		}
	}
	return true
}

// permutations are all permutations of n numbers.
func permutations(n int) [][]int {
	return slices.DeleteFunc(sequences(n, 0, n-1), func(p []int) bool { return !permutation(p) })
}

// tuples are all tuples of n of the values.
func tuples(n int, values []api.Value) [][]api.Value {
	var out [][]api.Value
	for _, s := range sequences(n, 0, len(values)-1) {
		var t []api.Value
		for _, c := range s {
			t = append(t, values[c])
		}
		out = append(out, t)
	}
	return out
}

// picked is the definition of Pick, column by column.
func picked(t []api.Value, cols []int) []api.Value {
	var out []api.Value
	for _, c := range cols {
		for i := range t {
			if i == c {
				out = append(out, t[i])
			}
		}
	}
	return out
}

// compared is the definition of Compare: the picked values, and then their numbers.
func compared(a, b []api.Value, p []int) int {
	x, y := picked(a, p), picked(b, p)
	for i := range min(len(x), len(y)) {
		if x[i] != y[i] {
			return value.Compare(x[i], y[i])
		}
	}
	return min(1, max(-1, len(x)-len(y)))
}

func randomTuple(r *rand.Rand, most int) []api.Value {
	values := mixed()
	t := make([]api.Value, r.Intn(most+1))
	for i := range t {
		t[i] = values[r.Intn(len(values))]
	}
	return t
}

// randomColumns are numbers of which some stand twice, are negative or are too great.
func randomColumns(r *rand.Rand, most int) []int {
	cols := make([]int, r.Intn(most+1))
	for i := range cols {
		cols[i] = r.Intn(most+4) - 2
	}
	return cols
}

// noPermutations are invalid for each reason, with the wrong number in each place.
func noPermutations() [][]int {
	return [][]int{
		{1}, {-1}, {2}, {0, 0}, {1, 1}, {0, 2}, {2, 0}, {-1, 0}, {0, -1}, {1, 2}, {0, 1, 1}, {1, 0, 1}, {0, 0, 1}, {0, 1, 3}, {3, 0, 1}, {0, 3, 1},
		{0, 1, -1}, {-1, 0, 1}, {0, -1, 1}, {1, 2, 3}, {0, 1, 2, 3, 4, 5, 6, 7, 9}, {0, 1, 2, 3, 4, 5, 6, 7, 7},
		{math.MaxInt}, {math.MinInt}, {0, math.MaxInt}, {math.MinInt, 0}, {0, 1 << 32}, {1 << 32, 1},
	}
}

func TestPerm(t *testing.T) {
	for _, p := range [][]int{nil, {}, {0}, {0, 1}, {1, 0}, {2, 0, 1}, {7, 6, 5, 4, 3, 2, 1, 0}, {8, 0, 1, 2, 3, 4, 5, 6, 7}} {
		if !Perm(p) {
			t.Errorf("Perm(%v) is false", p)
		}
	}
	for _, p := range noPermutations() {
		if Perm(p) {
			t.Errorf("Perm(%v) is true", p)
		}
	}
}

func TestPermOfAllShortSequences(t *testing.T) {
	for n := range 6 {
		count, want := 0, 1
		for _, p := range sequences(n, -1, n) {
			if Perm(p) != permutation(p) {
				t.Fatalf("Perm(%v) is %t", p, Perm(p))
			}
			if Perm(p) {
				count++
			}
		}
		for i := range n {
			want *= i + 1
		}
		if count != want {
			t.Errorf("%d permutations of %d numbers, not %d", count, n, want)
		}
	}
}

func TestPermOfLongSequences(t *testing.T) {
	r := rand.New(rand.NewSource(1))
	p := r.Perm(100000)
	if !Perm(p) {
		t.Error("a shuffled sequence is no permutation")
	}
	p[500] = p[99000]
	if Perm(p) {
		t.Error("a sequence with a number twice is a permutation")
	}
}

func TestPick(t *testing.T) {
	three := integers(5, 6, 7)
	for _, c := range []struct {
		t    []api.Value
		cols []int
		want []api.Value
	}{
		{three, []int{0, 1, 2}, integers(5, 6, 7)},
		{three, []int{2, 1, 0}, integers(7, 6, 5)},
		{three, []int{1}, integers(6)},
		{three, []int{2, 2, 0, 2}, integers(7, 7, 5, 7)},
		{three, []int{2, 0, 3, -1, 2}, integers(7, 5, 7)},
		{three, []int{3}, nil},
		{three, []int{-1}, nil},
		{three, []int{-3, 3, 4}, nil},
		{three, []int{math.MinInt, 1, math.MaxInt, 1 << 32}, integers(6)},
		{three, nil, nil},
		{three, []int{}, nil},
		{nil, []int{0, 1, -1}, nil},
		{nil, nil, nil},
		{[]api.Value{}, []int{}, nil},
		{[]api.Value{symbol("a"), {}, floating(-1)}, []int{1, 2, 0}, []api.Value{{}, floating(-1), symbol("a")}},
		{[]api.Value{{Kind: 9, N: 3, S: "No"}}, []int{0, 0}, []api.Value{{Kind: 9, N: 3, S: "No"}, {Kind: 9, N: 3, S: "No"}}},
	} {
		if x := Pick(c.t, c.cols); !slices.Equal(x, c.want) {
			t.Errorf("Pick(%v, %v) is %v, not %v", c.t, c.cols, x, c.want)
		}
	}
}

func TestRandomPicksAreAsDefined(t *testing.T) {
	r := rand.New(rand.NewSource(2))
	for range 20000 {
		x, cols := randomTuple(r, 9), randomColumns(r, 9)
		if got, want := Pick(x, cols), picked(x, cols); !slices.Equal(got, want) {
			t.Fatalf("Pick(%v, %v) is %v, not %v", x, cols, got, want)
		}
	}
}

func TestInverse(t *testing.T) {
	for n := range 7 {
		for _, p := range permutations(n) {
			q := Inverse(p)
			if len(q) != n || !permutation(q) {
				t.Fatalf("Inverse(%v) is %v", p, q)
			}
			for i := range q {
				if p[q[i]] != i {
					t.Fatalf("Inverse(%v) is %v", p, q)
				}
			}
			if !slices.Equal(Inverse(q), p) {
				t.Fatalf("Inverse(%v) is %v", q, Inverse(q))
			}
		}
	}
	// A permutation that is not its own inverse, so that the direction shows.
	if q := Inverse([]int{2, 0, 1, 3}); !slices.Equal(q, []int{1, 2, 0, 3}) {
		t.Errorf("Inverse(2, 0, 1, 3) is %v", q)
	}
	if q := Inverse(nil); len(q) != 0 {
		t.Errorf("Inverse(nil) is %v", q)
	}
}

func TestInverseOfNoPermutation(t *testing.T) {
	for _, p := range noPermutations() {
		if q := Inverse(p); q != nil {
			t.Errorf("Inverse(%v) is %v", p, q)
		}
	}
}

func TestSame(t *testing.T) {
	for _, c := range []struct {
		a, b []api.Value
		want bool
	}{
		{nil, nil, true},
		{nil, []api.Value{}, true},
		{integers(1, 2, 3), integers(1, 2, 3), true},
		{mixed(), mixed(), true},
		{[]api.Value{{}}, []api.Value{{}}, true},
		{[]api.Value{{Kind: 7, N: 1, S: "!"}}, []api.Value{{Kind: 7, N: 1, S: "!"}}, true},
		{nil, integers(0), false},
		{nil, []api.Value{{}}, false},
		{[]api.Value{{}}, []api.Value{{}, {}}, false},
		{integers(1, 2), integers(1, 2, 3), false},
		{integers(1, 2, 3), integers(2, 3), false},
		{integers(1, 2), integers(2, 1), false},
		{integers(1, 1, 2), integers(1, 2, 2), false},
		{integers(1, 2, 3), integers(1, 2, 4), false},
		{integers(0, 2, 3), integers(1, 2, 3), false},
		{integers(5), []api.Value{floating(5)}, false},
		{[]api.Value{floating(-1)}, []api.Value{floating(0)}, false},
		{[]api.Value{symbol("a")}, []api.Value{symbol("b")}, false},
		{[]api.Value{symbol("a")}, []api.Value{{Kind: api.Sym, N: 1, S: "a"}}, false},
		{integers(7), []api.Value{{Kind: api.Int, N: 7, S: "x"}}, false},
		{[]api.Value{{Kind: 0}}, []api.Value{{Kind: 4}}, false},
		{[]api.Value{symbol("a"), symbol("bc")}, []api.Value{symbol("ab"), symbol("c")}, false},
	} {
		if Same(c.a, c.b) != c.want || Same(c.b, c.a) != c.want {
			t.Errorf("Same(%v, %v) is %t, and %t the other way, not %t", c.a, c.b, Same(c.a, c.b), Same(c.b, c.a), c.want)
		}
	}
}

// NaN is one value like all others: a tuple with it is the same as itself.
func TestSameWithNaN(t *testing.T) {
	a, b := []api.Value{floating(9221120237041090561)}, []api.Value{floating(9221120237041090561)}
	if !Same(a, b) || Compare(a, b, []int{0}) != 0 {
		t.Error("a tuple with NaN is not the same as itself")
	}
}

func TestText(t *testing.T) {
	name := strings.Repeat("z", 40)
	for _, c := range []struct {
		t    []api.Value
		want string
	}{
		{nil, ""},
		{[]api.Value{}, ""},
		{integers(7), "7"},
		{integers(-4, 0, 12), "-4, 0, 12"},
		{[]api.Value{integer(-4), symbol("x")}, "-4, x"},
		{[]api.Value{symbol("ann_2"), floating(-1), integer(math.MinInt64)}, "ann_2, #ffffffffffffffff, -9223372036854775808"},
		{[]api.Value{symbol(name), symbol("a"), symbol("b")}, name + ", a, b"},
		{integers(1, 2, 3, 4, 5, 6, 7, 8, 9), "1, 2, 3, 4, 5, 6, 7, 8, 9"},
		{integers(1, 1), "1, 1"},
		{[]api.Value{{}}, ""},
		{[]api.Value{{}, {}}, ", "},
		{[]api.Value{{}, integer(1)}, ", 1"},
		{[]api.Value{integer(1), symbol("No")}, "1, "},
		{[]api.Value{integer(1), floating(math.MaxInt64), symbol("a")}, "1, , a"},
	} {
		if s := Text(c.t); s != c.want {
			t.Errorf("Text(%v) is %q, not %q", c.t, s, c.want)
		}
	}
}

func TestTextOfALongTuple(t *testing.T) {
	var l []int64
	var want []string
	for n := range int64(10000) {
		l, want = append(l, n), append(want, strconv.FormatInt(n, 10))
	}
	if s := Text(integers(l...)); s != strings.Join(want, ", ") {
		t.Errorf("the text of 10000 integers begins with %.50q", s)
	}
}

// checkCompare compares both ways, since an order turned round is one too.
func checkCompare(t *testing.T, a, b []api.Value, p []int, want int) {
	t.Helper()
	if n := Compare(a, b, p); n != want {
		t.Errorf("Compare(%v, %v, %v) is %d, not %d", a, b, p, n, want)
	}
	if n := Compare(b, a, p); n != -want {
		t.Errorf("Compare(%v, %v, %v) is %d, not %d", b, a, p, n, -want)
	}
}

func TestCompareByPermutations(t *testing.T) {
	checkCompare(t, integers(1, 9), integers(2, 3), []int{1, 0}, 1)
	checkCompare(t, integers(1, 9), integers(2, 3), []int{0, 1}, -1)
	checkCompare(t, integers(1, 2), integers(1, 3), []int{0, 1}, -1)
	checkCompare(t, integers(1, 3), integers(2, 3), []int{1, 0}, -1)
	checkCompare(t, integers(1, 2, 3), integers(1, 2, 3), []int{2, 0, 1}, 0)
	checkCompare(t, integers(5, 1, 9), integers(4, 2, 9), []int{2, 1, 0}, -1)
	checkCompare(t, integers(math.MinInt64), integers(math.MaxInt64), []int{0}, -1)
	checkCompare(t, integers(1), []api.Value{floating(0)}, []int{0}, -1)
	checkCompare(t, []api.Value{symbol("b"), symbol("a")}, []api.Value{symbol("b"), symbol("ab")}, []int{0, 1}, -1)
	checkCompare(t, integers(1, 2, 3, 4, 5, 6, 7, 8), integers(1, 2, 3, 4, 5, 6, 7, 9), []int{0, 1, 2, 3, 4, 5, 6, 7}, -1)
	checkCompare(t, nil, nil, nil, 0)
	checkCompare(t, []api.Value{}, nil, []int{}, 0)
}

func TestCompareOfTuplesThatBeginOthers(t *testing.T) {
	checkCompare(t, integers(1), integers(1, 2), []int{0, 1}, -1)
	checkCompare(t, nil, integers(1), []int{0}, -1)
	checkCompare(t, nil, []api.Value{{Kind: -1}}, []int{0}, -1)
	checkCompare(t, integers(1), integers(1, math.MinInt64, 3), []int{0, 1, 2}, -1)
	checkCompare(t, integers(2), integers(1, 2), []int{0, 1}, 1)
	checkCompare(t, integers(1, 2), integers(1, 2, 3), []int{1, 0}, 0)
	// The shorter tuple lacks a column ahead of the one that both have, so unlike columns meet.
	checkCompare(t, integers(1), integers(1, 2), []int{1, 0}, -1)
	checkCompare(t, integers(3), integers(1, 2), []int{1, 0}, 1)
	checkCompare(t, integers(2), integers(1, 2), []int{1, 0}, -1)
	checkCompare(t, integers(7), integers(7, 7, 7), []int{2, 1, 0}, -1)
	checkCompare(t, integers(1, 5), integers(5, 4, 5, 1), []int{3, 2, 0, 1}, -1)
}

func TestCompareByOtherColumns(t *testing.T) {
	checkCompare(t, integers(1, 3), integers(2, 3), []int{1}, 0)
	checkCompare(t, integers(1, 3), integers(2, 3), nil, 0)
	checkCompare(t, integers(1), integers(2), []int{}, 0)
	checkCompare(t, integers(1, 3), integers(2, 3), []int{-1, 2}, 0)
	checkCompare(t, integers(1, 3), integers(2, 3), []int{math.MinInt, math.MaxInt, 1 << 32}, 0)
	checkCompare(t, integers(1, 3), integers(2, 3), []int{-1, 5, 1, 0}, -1)
	checkCompare(t, integers(1, 3), integers(2, 3), []int{1, 1, 1, 0, 0}, -1)
	checkCompare(t, integers(1), integers(1, 2), []int{0, 0}, 0)
	checkCompare(t, integers(1), integers(1, 2), []int{0, 1, 0}, -1)
	checkCompare(t, integers(1, 2), integers(1, 2, 3), []int{0, 1, 9}, 0)
	checkCompare(t, integers(1, 2), nil, []int{2, 3}, 0)
}

func TestCompareOfValuesThatAreNotValid(t *testing.T) {
	values := mixed()
	for i := range values {
		for k := range values {
			want := min(1, max(-1, i-k))
			checkCompare(t, values[i:i+1], values[k:k+1], []int{0}, want)
			checkCompare(t, []api.Value{symbol("No"), values[i]}, []api.Value{symbol("No"), values[k]}, []int{0, 1}, want)
			checkCompare(t, []api.Value{{}, values[i]}, []api.Value{{Kind: 5}, values[k]}, []int{1}, want)
		}
	}
}

func TestRandomComparesAreAsDefined(t *testing.T) {
	r := rand.New(rand.NewSource(3))
	for range 100000 {
		a, b, p := randomTuple(r, 6), randomTuple(r, 6), randomColumns(r, 8)
		// Tuples of few values are often alike for some columns.
		for i := range min(len(a), len(b)) {
			if r.Intn(3) > 0 {
				b[i] = a[i]
			}
		}
		if n, want := Compare(a, b, p), compared(a, b, p); n != want {
			t.Fatalf("Compare(%v, %v, %v) is %d, not %d", a, b, p, n, want)
		}
	}
}

func TestCompareIsATotalOrder(t *testing.T) {
	values := []api.Value{{}, integer(-1), integer(3), floating(-1), symbol("a"), {Kind: api.Sym, N: 1}}
	for n := range 4 {
		for _, p := range permutations(n) {
			l := tuples(n, values)
			r := rand.New(rand.NewSource(4))
			r.Shuffle(len(l), func(i, k int) { l[i], l[k] = l[k], l[i] })
			slices.SortFunc(l, func(a, b []api.Value) int { return Compare(a, b, p) })
			// Every tuple has one position and Compare agrees with all positions: so it is total, antisymmetric and transitive.
			for i := range l {
				for k := range l {
					if n, want := Compare(l[i], l[k], p), min(1, max(-1, i-k)); n != want {
						t.Fatalf("Compare(%v, %v, %v) is %d, not %d", l[i], l[k], p, n, want)
					}
					if (i == k) != Same(l[i], l[k]) {
						t.Fatalf("Same(%v, %v) is %t", l[i], l[k], i != k)
					}
				}
			}
		}
	}
}

func TestPickByAPermutationAndItsInverse(t *testing.T) {
	r := rand.New(rand.NewSource(5))
	values := mixed()
	for n := range 7 {
		for _, p := range permutations(n) {
			x := make([]api.Value, n)
			for i, c := range r.Perm(len(values))[:n] {
				x[i] = values[c]
			}
			if y := Pick(Pick(x, p), Inverse(p)); !slices.Equal(y, x) {
				t.Fatalf("picking %v by %v and its inverse returns %v", x, p, y)
			}
			if y := Pick(Pick(x, Inverse(p)), p); !slices.Equal(y, x) {
				t.Fatalf("picking %v by the inverse of %v and by it returns %v", x, p, y)
			}
		}
	}
}

func TestArgumentsAreNotModified(t *testing.T) {
	r := rand.New(rand.NewSource(6))
	for range 2000 {
		a, b, p := randomTuple(r, 5), randomTuple(r, 5), randomColumns(r, 5)
		if r.Intn(2) == 0 {
			p = r.Perm(len(a))
		}
		oldA, oldB, oldP := slices.Clone(a), slices.Clone(b), slices.Clone(p)
		Perm(p)
		Compare(a, b, p)
		Pick(a, p)
		Inverse(p)
		Same(a, b)
		Text(a)
		if !slices.Equal(a, oldA) || !slices.Equal(b, oldB) || !slices.Equal(p, oldP) {
			t.Fatalf("%v, %v, %v became %v, %v, %v", oldA, oldB, oldP, a, b, p)
		}
	}
}

// What is returned may be changed, and appended to, without an effect on what was passed.
func TestResultsShareNoMemory(t *testing.T) {
	whole := integers(1, 2, 3, 4)
	x := Pick(whole[:3], []int{0, 1, 2})
	x[0] = symbol("a")
	_ = append(x[:2], symbol("b"), symbol("c"), symbol("d"))
	if !slices.Equal(whole, integers(1, 2, 3, 4)) {
		t.Errorf("changing what Pick returned makes the tuple %v", whole)
	}
	whole[1] = symbol("e")
	if x[1] != integer(2) {
		t.Errorf("changing the tuple makes what Pick returned %v", x)
	}
	p := []int{0, 1, 2, 3}
	q := Inverse(p[:3])
	q[0] = 9
	_ = append(q[:2], 8, 8, 8)
	if !slices.Equal(p, []int{0, 1, 2, 3}) {
		t.Errorf("changing what Inverse returned makes the permutation %v", p)
	}
	p[1] = 7
	if q[1] != 1 {
		t.Errorf("changing the permutation makes what Inverse returned %v", q)
	}
}

func TestNilArguments(t *testing.T) {
	one, cols := integers(1), []int{0}
	if !Perm(nil) || len(Inverse(nil)) != 0 || Text(nil) != "" {
		t.Error("Perm, Inverse or Text of nil")
	}
	if len(Pick(nil, nil)) != 0 || len(Pick(nil, cols)) != 0 || len(Pick(one, nil)) != 0 {
		t.Error("Pick of nil")
	}
	if !Same(nil, nil) || Same(nil, one) || Same(one, nil) {
		t.Error("Same of nil")
	}
	if Compare(nil, nil, nil) != 0 || Compare(nil, nil, cols) != 0 || Compare(one, nil, nil) != 0 || Compare(nil, one, cols) != -1 || Compare(one, nil, cols) != 1 {
		t.Error("Compare of nil")
	}
}

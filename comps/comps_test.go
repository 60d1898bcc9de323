package comps

import (
	"math"
	"math/rand"
	"slices"
	"strconv"
	"strings"
	"testing"
)

// P12.1: the components of small graphs, numbered as the chapter says.
func TestComps(t *testing.T) {
	for _, c := range []struct {
		n           int
		needs, want string
	}{
		{3, "0>1 1>0", "0 0 1"}, // the chapter's example
		{3, "", "0 1 2"},
		// Without a cycle.
		{2, "0>1", "1 0"},
		{2, "1>0", "0 1"},
		{4, "0>1 1>2 2>3", "3 2 1 0"},
		{4, "3>2 2>1 1>0", "0 1 2 3"},
		{4, "0>1 0>2 1>3 2>3", "3 1 2 0"},
		{4, "3>0 3>1 2>0", "0 1 2 3"},
		{3, "0>1 0>2 1>2", "2 1 0"},
		// A single ring.
		{1, "0>0", "0"},
		{2, "0>1 1>0", "0 0"},
		{4, "0>1 1>2 2>3 3>0", "0 0 0 0"},
		{4, "0>3 3>2 2>1 1>0", "0 0 0 0"},
		{4, "0>2 2>1 1>3 3>0", "0 0 0 0"},
		// Two rings, of which one needs the other.
		{4, "0>1 1>0 2>3 3>2 1>2", "1 1 0 0"},
		{4, "0>1 1>0 2>3 3>2 2>1", "0 0 1 1"},
		{4, "0>2 2>0 1>3 3>1 0>3", "1 0 1 0"},
		{4, "0>2 2>0 1>3 3>1 3>0", "0 1 0 1"},
		{4, "0>2 2>0 1>3 3>1", "0 1 0 1"},
		// Two rings that share a node, or need each other.
		{5, "0>1 1>2 2>0 2>3 3>4 4>2", "0 0 0 0 0"},
		{4, "0>1 1>0 2>3 3>2 0>2 3>1", "0 0 0 0"},
		{5, "1>2 2>1 2>3 3>2", "0 1 1 1 2"},
		// A node that needs itself, in a ring or by itself, and pairs that are there twice.
		{3, "1>1", "0 1 2"},
		{3, "0>0 0>1 1>1", "1 0 2"},
		{3, "0>1 1>0 0>0 2>2", "0 0 1"},
		{3, "0>1 0>1 1>2 0>1 1>2", "2 1 0"},
		{3, "0>1 1>0 0>1 1>0 2>0 2>1 2>1", "0 0 1"},
		// What is free at once comes by its least node.
		{4, "0>3", "3 0 1 2"},
		{5, "1>4 0>4 3>2", "3 4 0 1 2"},
		{5, "4>2 4>1 4>0 4>3", "0 1 2 3 4"},
		{5, "0>4 1>4 2>4 3>4", "1 2 3 4 0"},
		{5, "3>4 2>4 1>4 0>4", "1 2 3 4 0"},
		// What has just become free comes before what was free, if its least node is less.
		{6, "0>3 3>4 4>3 1>1 5>0 5>1 2>5", "2 0 4 1 1 3"},
		{4, "0>2", "2 0 1 3"},
		{5, "0>3 2>0", "2 0 3 1 4"},
		{4, "2>1 0>2", "2 0 1 3"},
		{6, "1>3 0>1 2>5", "2 1 5 0 3 4"},
		// The least node of a component counts, and not the one by which it is reached.
		{6, "5>1 1>5 4>2 2>4 0>5 3>4", "1 0 2 3 2 0"},
		{5, "1>4 4>1 3>2 2>3 0>2", "2 0 1 1 0"},
		{5, "4>1 1>4 2>3 3>2 0>3 0>4", "2 0 1 1 0"},
		// A component becomes free only when all that it needs is numbered.
		{4, "0>1 0>2 0>3", "3 0 1 2"},
		{4, "0>1 0>3 1>0 1>2", "2 2 0 1"},
		{5, "0>1 1>0 0>2 1>3 0>4", "3 3 0 1 2"},
		{5, "0>1 1>0 0>2 1>2 0>2", "1 1 0 2 3"},
	} {
		checkComps(t, c.n, pairs(t, c.needs), numbers(t, c.want))
	}
}

// P12.1: n is clamped to the range from 0 to 1000.
func TestNumberOfNodes(t *testing.T) {
	all := "0>1 1>0 999>999 999>998 998>1000 1000>998 1001>0"
	for _, n := range []int{-1, -2, -1000, math.MinInt, 0} {
		checkComps(t, n, nil, nil)
		checkComps(t, n, pairs(t, all), nil)
		for _, from := range []int{-1, 0, 1, n, n - 1, n + 1} {
			checkReach(t, n, pairs(t, all), from, nil)
		}
	}
	checkComps(t, 1, nil, []int{0})
	checkComps(t, 1, pairs(t, all), []int{0})
	checkReach(t, 1, pairs(t, all), 0, []int{0})
	checkReach(t, 1, pairs(t, all), 1, nil)
	checkComps(t, 999, pairs(t, "998>0 0>998"), slices.Concat(through(0, 998), []int{0}))
	for _, n := range []int{1000, 1001, 1002, 2000, math.MaxInt} {
		checkComps(t, n, nil, through(0, 1000))
		checkComps(t, n, pairs(t, all), slices.Concat([]int{0, 0}, through(1, 999)))
		checkComps(t, n, pairs(t, "0>999"), slices.Concat([]int{999}, through(0, 999)))
		checkComps(t, n, pairs(t, "0>999 999>1000 1000>0"), slices.Concat([]int{999}, through(0, 999)))
		checkReach(t, n, pairs(t, all), 999, []int{998, 999})
		checkReach(t, n, pairs(t, all), 998, []int{998})
		checkReach(t, n, pairs(t, all), 1000, nil)
		checkReach(t, n, pairs(t, all), 1001, nil)
	}
}

// P12.1: pairs with a number that is not a node are ignored.
func TestPairsWithoutNodes(t *testing.T) {
	for _, x := range []int{-1, -2, -3, 3, 4, 5, 999, 1000, 1001, math.MinInt, math.MaxInt} {
		s := strconv.Itoa(x)
		for _, node := range []string{"0", "1", "2"} {
			all := strings.NewReplacer("s", s, "x", node).Replace("s>x x>s s>s 0>2 x>s s>0 s>1 s>2 0>s 1>s 2>s")
			checkComps(t, 3, pairs(t, all), []int{2, 0, 1})
			checkReach(t, 3, pairs(t, all), 0, []int{0, 2})
			checkReach(t, 3, pairs(t, all), 1, []int{1})
			checkReach(t, 3, pairs(t, all), x, nil)
		}
	}
}

// P12.1: what a node reaches.
func TestReach(t *testing.T) {
	for _, c := range []struct {
		n     int
		needs string
		from  int
		want  string
	}{
		{6, "0>3 3>4 4>3 1>1 5>0 5>1 2>5", 5, "0 1 3 4 5"},
		{6, "0>3 3>4 4>3 1>1 5>0 5>1 2>5", 2, "0 1 2 3 4 5"},
		{6, "0>3 3>4 4>3 1>1 5>0 5>1 2>5", 4, "3 4"},
		// Only itself.
		{3, "", 0, "0"},
		{3, "", 2, "2"},
		{3, "1>1", 1, "1"},
		{3, "0>1 2>1", 1, "1"},
		{1, "", 0, "0"},
		{1, "0>0 0>0", 0, "0"},
		// All.
		{3, "0>1 1>2", 0, "0 1 2"},
		{3, "2>1 1>0", 2, "0 1 2"},
		{3, "1>0 1>2", 1, "0 1 2"},
		{4, "2>3 3>0 0>1 1>2", 0, "0 1 2 3"},
		{4, "2>3 3>0 0>1 1>2", 3, "0 1 2 3"},
		{5, "0>4 0>2 4>1 4>3", 0, "0 1 2 3 4"},
		// What is reached on two ways is there once.
		{4, "0>1 0>2 1>3 2>3 0>3 0>3", 0, "0 1 2 3"},
		{4, "0>1 1>0 1>2 2>1", 2, "0 1 2"},
		// Not what reaches it.
		{4, "0>1 1>2 2>3", 2, "2 3"},
		{4, "0>1 1>0 0>2 3>2", 2, "2"},
		{4, "0>1 1>0 0>2 3>2", 3, "2 3"},
		// No nodes.
		{3, "0>1 1>2", -1, ""},
		{3, "0>1 1>2", 3, ""},
		{3, "0>1 3>1", 3, ""},
		{3, "-1>1", -1, ""},
		{3, "0>1", math.MaxInt, ""},
		{3, "0>1", math.MinInt, ""},
		{0, "", 0, ""},
	} {
		checkReach(t, c.n, pairs(t, c.needs), c.from, numbers(t, c.want))
	}
}

// P12.1: the order of the pairs makes no difference.
func TestOrderOfPairs(t *testing.T) {
	for _, c := range []struct {
		n                  int
		needs, want, reach string
	}{
		{6, "0>3 3>4 4>3 5>0 5>1", "3 0 1 2 2 4", "0 3 4"},
		{5, "0>3 0>1 1>0 2>4 4>3", "1 1 3 0 2", "0 1 3"},
		{5, "1>4 0>4 3>2 0>3 3>2", "3 4 0 1 2", "0 2 3 4"},
	} {
		l := pairs(t, c.needs)
		r := rand.New(rand.NewSource(11))
		for range 300 {
			other := slices.Clone(l)
			r.Shuffle(len(l), func(i, j int) { other[i], other[j] = other[j], other[i] })
			if got := Comps(c.n, other); !slices.Equal(got, numbers(t, c.want)) {
				t.Fatalf("%v: %v, not %s", other, got, c.want)
			}
			if got := Reach(c.n, other, 0); !slices.Equal(got, numbers(t, c.reach)) {
				t.Fatalf("%v: 0 reaches %v, not %s", other, got, c.reach)
			}
		}
	}
}

// P12.1 and R1: chains and rings of 1000 nodes, forward and backward.
func TestLongGraphs(t *testing.T) {
	var up, down [][2]int
	for x := range 999 {
		up, down = append(up, [2]int{x, x + 1}), append(down, [2]int{x + 1, x})
	}
	falling := through(0, 1000)
	slices.Reverse(falling)
	checkComps(t, 1000, up, falling)
	checkComps(t, 1000, down, through(0, 1000))
	checkComps(t, 500, up, falling[500:])
	checkReach(t, 1000, up, 0, through(0, 1000))
	checkReach(t, 1000, up, 999, []int{999})
	checkReach(t, 1000, down, 500, through(0, 501))
	one := make([]int, 1000)
	checkComps(t, 1000, append(slices.Clone(up), [2]int{999, 0}), one)
	checkComps(t, 1000, append(slices.Clone(down), [2]int{0, 999}), one)
	checkComps(t, 1000, append(slices.Clone(up), down...), one)
	checkReach(t, 1000, append(slices.Clone(up), [2]int{999, 0}), 700, through(0, 1000))
	// Rings of two halves, of which the first one needs the second one.
	halves := append(slices.Clone(up), [2]int{499, 0}, [2]int{999, 500})
	checkComps(t, 1000, halves, slices.Concat(slices.Repeat([]int{1}, 500), slices.Repeat([]int{0}, 500)))
	checkReach(t, 1000, halves, 500, through(500, 1000))
}

// P12.1 and R1: all pairs of 1000 nodes, and all of those that go up.
func TestManyPairs(t *testing.T) {
	var all, up [][2]int
	for x := range 1000 {
		for y := range 1000 {
			all = append(all, [2]int{x, y})
			if x < y {
				up = append(up, [2]int{x, y})
			}
		}
	}
	falling := through(0, 1000)
	slices.Reverse(falling)
	if !slices.Equal(Comps(1000, all), make([]int, 1000)) {
		t.Errorf("not all nodes are in one component")
	}
	if !slices.Equal(Comps(1000, up), falling) {
		t.Errorf("the components of the pairs that go up are not numbered from 999 down")
	}
	if !slices.Equal(Reach(1000, up, 300), through(300, 1000)) {
		t.Errorf("300 does not reach those above it by the pairs that go up")
	}
}

// P12.2: lists of the indices at which numbers occur.
func TestLists(t *testing.T) {
	for _, c := range []struct {
		of   string
		want []string
	}{
		{"", nil},
		{"0", []string{"0"}},
		{"0 0 1", []string{"0 1", "2"}},
		{"0 1 2", []string{"0", "1", "2"}},
		// In no order.
		{"2 1 0", []string{"2", "1", "0"}},
		{"1 0 1 2 0 1", []string{"1 4", "0 2 5", "3"}},
		// With gaps.
		{"3", []string{"", "", "", "0"}},
		{"1 3 1", []string{"", "0 2", "", "1"}},
		{"4 0", []string{"1", "", "", "", "0"}},
		// Negative numbers.
		{"-1", nil},
		{"-1 -2 -1000", nil},
		{"2 -1 0 2", []string{"2", "", "0 3"}},
		{"-1 0 -1 1 -9223372036854775808", []string{"1", "3"}},
		// Numbers above 1000.
		{"1001", nil},
		{"1001 1 1002 9223372036854775807 1 1001", []string{"", "1 4"}},
		{"0 1001 -1", []string{"0"}},
	} {
		var want [][]int
		for _, s := range c.want {
			want = append(want, numbers(t, s))
		}
		checkLists(t, numbers(t, c.of), want)
	}
}

// P12.2: 1000 is the greatest number, and there may be more indices than that.
func TestLongLists(t *testing.T) {
	want := make([][]int, 1001)
	want[1000] = []int{1}
	checkLists(t, []int{1001, 1000, -1}, want)
	want[1000], want[999], want[0] = []int{0, 5}, []int{1}, []int{2}
	checkLists(t, []int{1000, 999, 0, 1001, -1, 1000, 1001}, want)
	checkLists(t, []int{999}, append(make([][]int, 999), []int{0}))
	checkLists(t, make([]int, 5000), [][]int{through(0, 5000)})
	many := through(-10, 1020)
	for i := range want {
		want[i] = []int{i + 10, i + 10 + len(many)}
	}
	checkLists(t, slices.Concat(many, many), want)
}

package comps

import (
	"math/rand"
	"slices"
	"testing"
)

// checkGraph checks all that is said of a graph, against the definition.
func checkGraph(t *testing.T, n int, needs [][2]int) []int {
	t.Helper()
	r := reaching(n, needs)
	of := Comps(n, needs)
	if want := definedComps(r); !slices.Equal(of, want) {
		t.Fatalf("Comps(%d, %v): %v, by the definition %v", n, needs, of, want)
	}
	for x := range n {
		if got, want := Reach(n, needs, x), definedReach(r, x); !slices.Equal(got, want) {
			t.Fatalf("Reach(%d, %v, %d): %v, by the definition %v", n, needs, x, got, want)
		}
	}
	checkNumbers(t, n, needs, of, r)
	checkParts(t, n, of)
	return of
}

// P12.1 and P12.3: nodes have the same number just if each reaches the other, and none needs a node with a greater number.
func checkNumbers(t *testing.T, n int, needs [][2]int, of []int, r [][]bool) {
	t.Helper()
	for x := range n {
		for y := range n {
			if (of[x] == of[y]) != (r[x][y] && r[y][x]) {
				t.Fatalf("Comps(%d, %v): %v for %d and %d, of which one reaches the other: %t, %t", n, needs, of, x, y, r[x][y], r[y][x])
			}
		}
	}
	for _, p := range needs {
		if min(p[0], p[1]) >= 0 && max(p[0], p[1]) < n && of[p[0]] < of[p[1]] {
			t.Fatalf("Comps(%d, %v): %v, but %d needs %d", n, needs, of, p[0], p[1])
		}
	}
}

// P12.2: each index is in the list of its number, once, and no list of components is empty.
func checkParts(t *testing.T, n int, of []int) {
	t.Helper()
	lists := Lists(of)
	if !slices.EqualFunc(lists, definedLists(of), slices.Equal) {
		t.Fatalf("Lists(%v): %v, by the definition %v", of, lists, definedLists(of))
	}
	for c, l := range lists {
		if len(l) == 0 || !slices.IsSorted(l) {
			t.Fatalf("Lists(%v): %v for %d", of, l, c)
		}
	}
	all := slices.Concat(lists...)
	slices.Sort(all)
	if !slices.Equal(all, through(0, n)) {
		t.Fatalf("Lists(%v): %v", of, lists)
	}
}

// P12.1 to P12.3: all graphs of up to four nodes.
func TestAllSmallGraphs(t *testing.T) {
	single, without := 0, 0
	for n := range 5 {
		for set := range 1 << (n * n) {
			var needs [][2]int
			for i := range n * n {
				if set>>i&1 != 0 {
					needs = append(needs, [2]int{i / n, i % n})
				}
			}
			of := checkGraph(t, n, needs)
			if n == 4 && slices.Max(of) == 0 {
				single++
			}
			if n == 4 && slices.Max(of) == 3 {
				without++
			}
		}
	}
	// There are 1606 graphs of four nodes that are a single component, and 543 without a cycle; each node of them may need itself or not.
	if single != 1606*16 || without != 543*16 {
		t.Errorf("%d graphs are a single component, and %d have no cycle", single, without)
	}
}

// P12.1 to P12.3: graphs at random, some of whose pairs are there twice or are not pairs of nodes.
func TestGraphsAtRandom(t *testing.T) {
	r := rand.New(rand.NewSource(12))
	several, rings := 0, 0
	for range 3000 {
		n := r.Intn(13)
		var needs [][2]int
		for range r.Intn(3*n + 3) {
			needs = append(needs, [2]int{r.Intn(n+3) - 1, r.Intn(n+3) - 1})
		}
		of := checkGraph(t, n, needs)
		if n > 0 && slices.Max(of) > 1 {
			several++
			if slices.Max(of) < n-2 {
				rings++
			}
		}
		r.Shuffle(len(needs), func(i, j int) { needs[i], needs[j] = needs[j], needs[i] })
		if again := Comps(n, append(needs, needs[:len(needs)/2]...)); !slices.Equal(again, of) {
			t.Fatalf("Comps(%d, %v): %v, and in another order %v", n, needs, of, again)
		}
	}
	if several < 1500 || rings < 300 {
		t.Errorf("only %d graphs with several components, %d of them with rings", several, rings)
	}
}

// P12.1 to P12.3: larger graphs, whose nodes are numbered in any order.
func TestLargeGraphs(t *testing.T) {
	r := rand.New(rand.NewSource(13))
	for range 40 {
		n := 20 + r.Intn(60)
		place := r.Perm(n)
		var needs [][2]int
		for range n * 3 / 2 {
			x, y := r.Intn(n), r.Intn(n)
			// Most of the pairs go down, so that there are many components.
			if x < y && r.Intn(8) > 0 {
				x, y = y, x
			}
			needs = append(needs, [2]int{place[x], place[y]})
		}
		checkGraph(t, n, needs)
	}
}

// P12.2: lists of numbers at random, some of which are ignored.
func TestListsAtRandom(t *testing.T) {
	r := rand.New(rand.NewSource(14))
	for range 2000 {
		var of []int
		for range r.Intn(12) {
			of = append(of, r.Intn(10)-2)
			if r.Intn(8) == 0 {
				of[len(of)-1] = 997 + r.Intn(8)
			}
		}
		checkLists(t, of, definedLists(of))
	}
}

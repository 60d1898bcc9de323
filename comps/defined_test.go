package comps

import "slices"

// What the functions return, by the words of the chapter: what reaches what is found by trying each node as the one between two others.

// reaching returns, for each node, which nodes it reaches.
func reaching(n int, needs [][2]int) [][]bool {
	r := make([][]bool, n)
	for x := range r {
		r[x] = make([]bool, n)
		r[x][x] = true
	}
	for _, p := range needs {
		if 0 <= p[0] && p[0] < n && 0 <= p[1] && p[1] < n {
			r[p[0]][p[1]] = true
		}
	}
	for between := range n {
		for x := range n {
			if !r[x][between] {
				continue
			}
			for y := range n {
				r[x][y] = r[x][y] || r[between][y]
			}
		}
	}
	return r
}

// definedComps returns the numbers of the components: from one to the next, it takes the least node without a number that reaches only its own component and nodes with a number.
func definedComps(r [][]bool) []int {
	of := slices.Repeat([]int{-1}, len(r))
	for next := 0; ; next++ {
		x := slices.IndexFunc(through(0, len(r)), func(x int) bool {
			return of[x] < 0 && !slices.ContainsFunc(through(0, len(r)), func(y int) bool {
				return r[x][y] && !r[y][x] && of[y] < 0
			})
		})
		if x < 0 {
			return of
		}
		for y := range r {
			if r[x][y] && r[y][x] {
				of[y] = next
			}
		}
	}
}

// definedReach returns the nodes that from reaches.
func definedReach(r [][]bool, from int) []int {
	var l []int
	if from < 0 || from >= len(r) {
		return nil
	}
	for y, ok := range r[from] {
		if ok {
			l = append(l, y)
		}
	}
	return l
}

// definedLists returns the indices of each number.
func definedLists(of []int) [][]int {
	greatest := -1
	for _, c := range of {
		if c <= 1000 {
			greatest = max(greatest, c)
		}
	}
	lists := make([][]int, greatest+1)
	for c := range lists {
		for i, d := range of {
			if c == d {
				lists[c] = append(lists[c], i)
			}
		}
	}
	return lists
}

package comps

import (
	"fmt"
	"slices"
	"strconv"
	"strings"
	"testing"
	"unsafe"
)

// pairs returns the pairs that a text such as "0>3 3>-1" is.
func pairs(t *testing.T, text string) [][2]int {
	t.Helper()
	var l [][2]int
	for _, s := range strings.Fields(text) {
		a, b, _ := strings.Cut(s, ">")
		x, err := strconv.Atoi(a)
		y, err2 := strconv.Atoi(b)
		if err != nil || err2 != nil {
			t.Fatalf("%q is no pair", s)
		}
		l = append(l, [2]int{x, y})
	}
	return l
}

// numbers returns the numbers that a text such as "0 3 -1" is.
func numbers(t *testing.T, text string) []int {
	t.Helper()
	var l []int
	for _, s := range strings.Fields(text) {
		x, err := strconv.Atoi(s)
		if err != nil {
			t.Fatalf("%q is no number", s)
		}
		l = append(l, x)
	}
	return l
}

// through returns the numbers from a up to b, which is not among them.
func through(a, b int) []int {
	var l []int
	for x := a; x < b; x++ {
		l = append(l, x)
	}
	return l
}

// short returns the numbers of a list, or the first ones of a long list.
func short[T any](l []T) string {
	if len(l) > 30 {
		return fmt.Sprint(l[:30], "...")
	}
	return fmt.Sprint(l)
}

// roomy returns the elements of l in a slice with room behind them, which has the element spare in it.
func roomy[T any](l []T, spare T) []T {
	return append(slices.Clone(l), spare, spare)[:len(l)]
}

// extent is the memory of a slice, with the room behind its elements.
type extent struct{ from, to uintptr }

func extentOf[T any](l []T) extent {
	l = l[:cap(l)]
	if len(l) == 0 {
		return extent{}
	}
	from := uintptr(unsafe.Pointer(&l[0]))
	return extent{from, from + uintptr(len(l))*unsafe.Sizeof(l[0])}
}

// checkApart checks that none of the extents has memory in common with another one.
func checkApart(t *testing.T, all ...extent) {
	t.Helper()
	slices.SortFunc(all, func(a, b extent) int { return int(a.from) - int(b.from) })
	for i := 1; i < len(all); i++ {
		if all[i].from < all[i-1].to {
			t.Fatalf("memory is shared")
		}
	}
}

// checkCall calls a function with a slice two times: the slice must stay as it is, also behind its end, the results must be the same, and they must share memory neither with it nor with each other.
func checkCall[T comparable](t *testing.T, argument []T, spare T, call func([]T) []int) []int {
	t.Helper()
	l := roomy(argument, spare)
	before := slices.Clone(l[:cap(l)])
	first, again := call(l), call(l)
	if !slices.Equal(l[:cap(l)], before) {
		t.Fatalf("the argument %s has become %s", short(before), short(l[:cap(l)]))
	}
	if !slices.Equal(first, again) {
		t.Fatalf("for %s the result is %s, and then %s", short(argument), short(first), short(again))
	}
	checkApart(t, extentOf(l), extentOf(first), extentOf(again))
	return first
}

// checkComps checks what Comps returns.
func checkComps(t *testing.T, n int, needs [][2]int, want []int) {
	t.Helper()
	got := checkCall(t, needs, [2]int{1, 0}, func(l [][2]int) []int { return Comps(n, l) })
	if !slices.Equal(got, want) {
		t.Errorf("Comps(%d, %s): %s, not %s", n, short(needs), short(got), short(want))
	}
}

// checkReach checks what Reach returns.
func checkReach(t *testing.T, n int, needs [][2]int, from int, want []int) {
	t.Helper()
	got := checkCall(t, needs, [2]int{from, 1}, func(l [][2]int) []int { return Reach(n, l, from) })
	if !slices.Equal(got, want) {
		t.Errorf("Reach(%d, %s, %d): %s, not %s", n, short(needs), from, short(got), short(want))
	}
}

// checkLists checks what Lists returns.
func checkLists(t *testing.T, of []int, want [][]int) {
	t.Helper()
	l := roomy(of, 2)
	before := slices.Clone(l[:cap(l)])
	first, again := Lists(l), Lists(l)
	if !slices.Equal(l[:cap(l)], before) {
		t.Errorf("the argument %s has become %s", short(before), short(l[:cap(l)]))
	}
	if !slices.EqualFunc(first, want, slices.Equal) || !slices.EqualFunc(again, want, slices.Equal) {
		t.Errorf("Lists(%s): %s, and then %s, not %s", short(of), short(first), short(again), short(want))
	}
	all := []extent{extentOf(l), extentOf(first), extentOf(again)}
	for _, list := range slices.Concat(first, again) {
		all = append(all, extentOf(list))
	}
	checkApart(t, all...)
}

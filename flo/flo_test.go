package flo

import (
	"math"
	"math/big"
	"math/rand"
	"slices"
	"testing"
)

const (
	nan         = int64(9221120237041090561)
	inf         = int64(9218868437227405312)
	negInf      = int64(-9218868437227405313)
	leastNormal = 0x1p-1022
)

func negZero() float64 { return math.Copysign(0, -1) }

// numbers are floats in increasing order, with the codes that the definition gives them.
func numbers() ([]float64, []int64) {
	below := math.Nextafter(leastNormal, 0)
	floats := []float64{
		math.Inf(-1), -math.MaxFloat64, -1e300, -2, -1.5, -1, -0.5, -leastNormal, -below, -2 * 5e-324, -5e-324, negZero(),
		0, 5e-324, 2 * 5e-324, below, leastNormal, 0.5, 1, 1.5, 2, 1e300, math.MaxFloat64, math.Inf(1), math.NaN(),
	}
	codes := []int64{
		negInf, -9218868437227405312, -9094988921128908189, -4611686018427387905, -4609434218613702657, -4607182418800017409,
		-4602678819172646913, -4503599627370497, -4503599627370496, -3, -2, -1,
		0, 1, 2, 4503599627370495, 4503599627370496, 4602678819172646912, 4607182418800017408, 4609434218613702656,
		4611686018427387904, 9094988921128908188, 9218868437227405311, inf, nan,
	}
	return floats, codes
}

// noCodes are integers beside the codes, at every edge.
func noCodes() []int64 {
	return []int64{inf + 1, nan - 1, nan + 1, math.MaxInt64, negInf - 1, -nan, -1 - nan, math.MinInt64, math.MinInt64 + 1}
}

func same(a, b float64) bool {
	return math.IsNaN(a) && math.IsNaN(b) || math.Float64bits(a) == math.Float64bits(b)
}

// random is a float of random bits, so that all magnitudes are met alike; half of them are near 1, so that sums round.
func random(r *rand.Rand) float64 {
	bits := r.Uint64()
	if r.Intn(2) == 0 {
		bits = bits&^(0x7ff<<52) | uint64(1023-40+r.Intn(80))<<52
	}
	return math.Float64frombits(bits)
}

func TestCodeAndBack(t *testing.T) {
	floats, codes := numbers()
	for i, f := range floats {
		if n := Code(f); n != codes[i] {
			t.Errorf("Code(%g) is %d, not %d", f, n, codes[i])
		}
		if b := Back(codes[i]); !same(b, f) {
			t.Errorf("Back(%d) is %g, not %g", codes[i], b, f)
		}
		if !Right(codes[i]) {
			t.Errorf("Right(%d) is false", codes[i])
		}
	}
}

func TestCodeOfEveryNaN(t *testing.T) {
	for _, bits := range []uint64{
		0x7ff0000000000001, 0x7ff7ffffffffffff, 0x7ff8000000000000, 0x7ff8000000000001, 0x7fffffffffffffff,
		0xfff0000000000001, 0xfff8000000000000, 0xfff8000000000001, 0xffffffffffffffff,
	} {
		if n := Code(math.Float64frombits(bits)); n != nan {
			t.Errorf("Code of the NaN %x is %d", bits, n)
		}
	}
}

func TestNoCodes(t *testing.T) {
	for _, n := range noCodes() {
		if Right(n) {
			t.Errorf("Right(%d) is true", n)
		}
		if f := Back(n); !math.IsNaN(f) {
			t.Errorf("Back(%d) is %g", n, f)
		}
		for i, op := range []func(a, b int64) int64{Add, Sub, Mul, Div} {
			if a, b := op(n, Code(1)), op(Code(1), n); a != nan || b != nan {
				t.Errorf("operation %d with %d, which is no code: %d, %d", i, n, a, b)
			}
		}
	}
}

func TestRandomBitsGoThereAndBack(t *testing.T) {
	r := rand.New(rand.NewSource(1))
	for range 100000 {
		f := random(r)
		if b := Back(Code(f)); !same(b, f) || !Right(Code(f)) {
			t.Fatalf("Back(Code(%g)) is %g", f, b)
		}
		n := int64(r.Uint64())
		if want := n >= negInf && n <= inf || n == nan; Right(n) != want {
			t.Fatalf("Right(%d) is %t", n, !want)
		}
		if want := Right(n); want != (Code(Back(n)) == n) {
			t.Fatalf("Code(Back(%d)) is %d", n, Code(Back(n)))
		}
	}
}

// specials are operations whose results IEEE 754 defines by cases: a, b, and then a+b, a-b, a*b, a/b.
func specials() [][6]float64 {
	up, down, no, minus := math.Inf(1), math.Inf(-1), math.NaN(), negZero()
	most, least := math.MaxFloat64, 5e-324
	return [][6]float64{
		{no, 1, no, no, no, no},
		{1, no, no, no, no, no},
		{no, up, no, no, no, no},
		{no, no, no, no, no, no},
		{up, up, up, no, up, no},
		{up, down, no, up, down, no},
		{down, up, no, down, down, no},
		{down, down, down, no, up, no},
		{up, 0, up, up, no, up},
		{up, minus, up, up, no, down},
		{0, up, up, down, no, 0},
		{0, down, down, up, no, minus},
		{1, 0, 1, 1, 0, up},
		{1, minus, 1, 1, minus, down},
		{-1, 0, -1, -1, minus, down},
		{-1, minus, -1, -1, 0, up},
		{0, 0, 0, 0, 0, no},
		{0, minus, 0, 0, minus, no},
		{minus, 0, 0, minus, minus, no},
		{minus, minus, minus, 0, 0, no},
		{1, 1, 2, 0, 1, 1},
		{-1, -1, -2, 0, 1, 1},
		{most, most, up, 0, up, 1},
		{most, -most, 0, up, down, -1},
		{-most, most, 0, down, down, -1},
		{most, 1, most, most, most, most},
		{most, 0x1p969, most, most, up, 0x1p55 - 4},
		{most, 0x1p970, up, math.Nextafter(most, 0), up, 0x1p54 - 2},
		{least, least, 2 * least, 0, 0, 1},
		{least, -least, 0, 2 * least, minus, -1},
		{least, 2, 2, -2, 2 * least, 0},
		{3 * least, 2, 2, -2, 6 * least, 2 * least},
		{leastNormal, least, math.Nextafter(leastNormal, 1), math.Nextafter(leastNormal, 0), 0, 0x1p52},
		{least, 0.5, 0.5, -0.5, 0, 2 * least},
		{-least, 0.5, 0.5, -0.5, minus, -2 * least},
		{most, least, most, most, 0x1.fffffffffffffp-51, up},
		{0x1p53, 1, 0x1p53, 0x1p53 - 1, 0x1p53, 0x1p53},
		{0x1p53 + 2, 1, 0x1p53 + 4, 0x1p53, 0x1p53 + 2, 0x1p53 + 2},
		{6, 3, 9, 3, 18, 2},
		{1, -4, -3, 5, -4, -0.25},
	}
}

func TestSpecialOperations(t *testing.T) {
	names := "+-*/"
	for _, c := range specials() {
		a, b := Code(c[0]), Code(c[1])
		for i, got := range []int64{Add(a, b), Sub(a, b), Mul(a, b), Div(a, b)} {
			if got != Code(c[2+i]) {
				t.Errorf("%g %c %g is %g (%d), not %g", c[0], names[i], c[1], Back(got), got, c[2+i])
			}
		}
	}
}

func finite(f float64) bool { return !math.IsNaN(f) && !math.IsInf(f, 0) }

// nearest is the float64 nearest to an exact number, found without floating-point operations.
func nearest(x *big.Rat) float64 {
	f, _ := x.Float64()
	return f
}

// TestOperationsAreRounded holds the operations against exact numbers that are rounded once.
func TestOperationsAreRounded(t *testing.T) {
	r := rand.New(rand.NewSource(2))
	for range 5000 {
		f, g := random(r), random(r)
		if !finite(f) || !finite(g) || f == 0 || g == 0 {
			continue
		}
		x, y := new(big.Rat).SetFloat64(f), new(big.Rat).SetFloat64(g)
		a, b := Code(f), Code(g)
		exact := []*big.Rat{new(big.Rat).Add(x, y), new(big.Rat).Sub(x, y), new(big.Rat).Mul(x, y), new(big.Rat).Quo(x, y)}
		for i, got := range []int64{Add(a, b), Sub(a, b), Mul(a, b), Div(a, b)} {
			if exact[i].Sign() != 0 && got != Code(nearest(exact[i])) {
				t.Fatalf("%g %c %g is %g, not %g", f, "+-*/"[i], g, Back(got), nearest(exact[i]))
			}
		}
	}
}

func TestOf(t *testing.T) {
	for n, want := range map[int64]float64{
		0: 0, 1: 1, -1: -1, 42: 42, 1 << 53: 0x1p53, 1<<53 - 1: 0x1p53 - 1, -(1 << 53): -0x1p53,
		1<<53 + 1: 0x1p53, 1<<53 + 2: 0x1p53 + 2, 1<<53 + 3: 0x1p53 + 4, -(1<<53 + 1): -0x1p53, -(1<<53 + 3): -(0x1p53 + 4),
		1<<54 + 2: 0x1p54, 1<<54 + 3: 0x1p54 + 4, math.MaxInt64: 0x1p63, math.MinInt64: -0x1p63,
		math.MaxInt64 - 511: 0x1p63, math.MaxInt64 - 512: 0x1p63 - 1024, math.MinInt64 + 512: -0x1p63, math.MinInt64 + 513: -0x1p63 + 1024,
	} {
		if c := Of(n); c != Code(want) {
			t.Errorf("Of(%d) is %g, not %g", n, Back(c), want)
		}
	}
	r := rand.New(rand.NewSource(3))
	for range 10000 {
		n := int64(r.Uint64()) >> r.Intn(64)
		if want := nearest(new(big.Rat).SetInt64(n)); Of(n) != Code(want) {
			t.Fatalf("Of(%d) is %g, not %g", n, Back(Of(n)), want)
		}
	}
}

func TestOrder(t *testing.T) {
	floats, _ := numbers()
	for i := 1; i < len(floats); i++ {
		if Code(floats[i-1]) >= Code(floats[i]) {
			t.Errorf("the code of %g is not below that of %g", floats[i-1], floats[i])
		}
	}
	r := rand.New(rand.NewSource(4))
	for range 100000 {
		f, g := random(r), random(r)
		if f < g && Code(f) >= Code(g) || f > g && Code(f) <= Code(g) {
			t.Fatalf("the codes of %g and %g lie otherwise than the numbers", f, g)
		}
		if !math.IsNaN(f) && Code(f) >= Code(math.NaN()) {
			t.Fatalf("the code of %g is not below that of NaN", f)
		}
		next := math.Nextafter(f, math.Inf(1))
		if finite(f) && f != 0 && next != 0 && Code(next) != Code(f)+1 {
			t.Fatalf("the code after that of %g is not that of the next number", f)
		}
	}
}

// TestSortedCodes checks that sorting codes sorts the numbers, whatever order they come in.
func TestSortedCodes(t *testing.T) {
	floats, want := numbers()
	got := make([]int64, len(floats))
	for i, f := range floats {
		got[(i*7+3)%len(floats)] = Code(f)
	}
	slices.Sort(got)
	if !slices.Equal(got, want) {
		t.Errorf("sorted codes: %d", got)
	}
}

// Package flo is layer 1: floating-point numbers as integers in the same order (shared/doc/01-flo.md).
package flo

import "math"

const (
	signBit     uint64 = 1 << 63
	codeNaN     int64  = 0x7ff8000000000001
	codeInf     int64  = 0x7ff0000000000000
	codeNegInf  int64  = -1 - codeInf
	codeNegZero int64  = -1
)

// Code returns the code of f. All NaNs share one code: their bits carry no meaning here, and would break the order.
func Code(f float64) int64 {
	if math.IsNaN(f) {
		return codeNaN
	}
	bits := math.Float64bits(f)
	if bits&signBit == 0 {
		return int64(bits)
	}
	// The bits of a negative number grow with its magnitude, so they are counted downwards from -0.
	return codeNegZero - int64(bits&^signBit)
}

// Back returns the number with the code n, or NaN if n is not a code.
func Back(n int64) float64 {
	if !Right(n) {
		return math.NaN()
	}
	if n >= 0 {
		return math.Float64frombits(uint64(n))
	}
	return math.Float64frombits(uint64(codeNegZero-n) | signBit)
}

// Right reports whether n is a code.
func Right(n int64) bool {
	return codeNegInf <= n && n <= codeInf || n == codeNaN
}

// Add returns the code of the sum of the numbers with the codes a and b.
func Add(a, b int64) int64 { return Code(Back(a) + Back(b)) }

// Sub returns the code of their difference.
func Sub(a, b int64) int64 { return Code(Back(a) - Back(b)) }

// Mul returns the code of their product.
func Mul(a, b int64) int64 { return Code(Back(a) * Back(b)) }

// Div returns the code of their quotient; a division by a zero is an infinity or NaN.
func Div(a, b int64) int64 { return Code(Back(a) / Back(b)) }

// Of returns the code of the float64 that is nearest to n.
func Of(n int64) int64 { return Code(float64(n)) }

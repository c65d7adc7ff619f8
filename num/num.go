// Package num is layer 1: see shared/doc/01-num.md.
package num

import (
	"math"
	"math/bits"
)

// Add is a sum; false: it is too great.
func Add(a, b uint64) (uint64, bool) {
	sum, carry := bits.Add64(a, b, 0)
	if carry != 0 {
		return 0, false
	}
	return sum, true
}

// Plus is a sum, or the greatest number.
func Plus(a, b uint64) uint64 {
	sum, ok := Add(a, b)
	if !ok {
		return math.MaxUint64
	}
	return sum
}

// Minus is a difference, or 0.
func Minus(a, b uint64) uint64 {
	if a < b {
		return 0
	}
	return a - b
}

// Times is a product; false: it is too great.
func Times(a, b uint64) (uint64, bool) {
	high, low := bits.Mul64(a, b)
	if high != 0 {
		return 0, false
	}
	return low, true
}

// Ceil is how many times b it takes to have a.
func Ceil(a, b uint64) uint64 {
	if b == 0 {
		return 0
	}
	n := a / b
	// The usual (a + b - 1) / b would wrap for great a. Here a rest means that b is 2 or more, so n + 1 fits.
	if a%b != 0 {
		n++
	}
	return n
}

// Next is the first time behind e, of those that are periods behind d, and how many these are; false: there is none.
func Next(d, period, e uint64) (uint64, uint64, bool) {
	if period == 0 {
		return 0, 0, false
	}
	// Of e ahead of d Minus makes 0, so that one period is the least there is.
	n, ok := Add(Minus(e, d)/period, 1)
	if !ok {
		return 0, 0, false
	}
	way, ok := Times(n, period)
	if !ok {
		return 0, 0, false
	}
	at, ok := Add(d, way)
	if !ok {
		return 0, 0, false
	}
	return at, n, true
}

// Clamp is a number, held between two.
func Clamp(n, lo, hi int) int {
	return max(lo, min(n, hi))
}

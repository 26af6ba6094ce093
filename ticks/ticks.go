// Package ticks is layer 1: time and delays. See doc/01-ticks.md.
package ticks

import (
	"math"
	"math/bits"
)

// Add returns a + b, or 2^64 - 1 if the sum is greater.
func Add(a, b uint64) uint64 {
	sum, carry := bits.Add64(a, b, 0)
	if carry != 0 {
		return math.MaxUint64
	}
	return sum
}

// Sub returns a - b, or 0 if the difference is negative.
func Sub(a, b uint64) uint64 {
	difference, borrow := bits.Sub64(a, b, 0)
	if borrow != 0 {
		return 0
	}
	return difference
}

// Double returns a * 2^n, or 2^64 - 1 if that is greater; a if n is negative.
func Double(a uint64, n int) uint64 {
	// 0 has 64 leading zeros but stays 0 however often it is doubled, so it must not be taken for an overflow.
	if a == 0 || n < 0 {
		return a
	}
	if n > bits.LeadingZeros64(a) {
		return math.MaxUint64
	}
	return a << n
}

// Delay returns base doubled n times, but at most limit, and jitter more.
func Delay(base, limit uint64, n int, jitter uint64) uint64 {
	return Add(min(limit, Double(base, n)), jitter)
}

// Package sat is layer 1: numbers that do not go round. Every answer is from
// 0 to api.MaxTime, and every argument is taken as the nearest such number.
package sat

import (
	"pillarbox/api"
)

// Clamp answers n, or the nearer of the ends 0 and api.MaxTime if n is beyond
// them.
func Clamp(n int) int {
	if n < 0 {
		return 0
	}
	if n > api.MaxTime {
		return api.MaxTime
	}
	return n
}

// Add answers the sum of both, clamped.
func Add(a, b int) int {
	// Both are clamped first, so the sum is at most 2^41 and can't go round.
	return Clamp(Clamp(a) + Clamp(b))
}

// Sub answers a less b, or 0 if b is the greater.
func Sub(a, b int) int {
	return Clamp(Clamp(a) - Clamp(b))
}

// Mul answers the product of both, clamped.
func Mul(a, b int) int {
	a, b = Clamp(a), Clamp(b)
	// The product may reach 2^80, which an int does not hold: whether it is
	// too great is asked by a division, ahead of the product.
	if b > 0 && a > api.MaxTime/b {
		return api.MaxTime
	}
	return a * b
}

// Package sat is layer 1: sums that do not run over: see shared/doc/01-sat.md.
package sat

import "barrow/api"

// Add answers a and b together, held at the ends of numbers.
func Add(a, b int) int {
	switch {
	case b > 0 && a > api.MaxInt-b:
		return api.MaxInt
	case b < 0 && a < api.MinInt-b:
		return api.MinInt
	}
	return a + b
}

// Sub answers a less b, held at the ends of numbers.
//
// It is not built on Add, since MinInt can't be turned round.
func Sub(a, b int) int {
	switch {
	case b < 0 && a > api.MaxInt+b:
		return api.MaxInt
	case b > 0 && a < api.MinInt+b:
		return api.MinInt
	}
	return a - b
}

// Mul answers a times b, held at the ends of numbers.
//
// MinInt is divided by a factor above 0 alone: by -1 its quotient would run
// over.
func Mul(a, b int) int {
	switch {
	case a > 0 && b > 0:
		if a > api.MaxInt/b {
			return api.MaxInt
		}
	case a < 0 && b < 0:
		if a < api.MaxInt/b {
			return api.MaxInt
		}
	case a > 0 && b < 0:
		if b < api.MinInt/a {
			return api.MinInt
		}
	case a < 0 && b > 0:
		if a < api.MinInt/b {
			return api.MinInt
		}
	}
	return a * b
}

// Clamp answers the number from lo to hi that is nearest to a; lo, if no
// number lies there.
func Clamp(a, lo, hi int) int {
	switch {
	case lo > hi, a < lo:
		return lo
	case a > hi:
		return hi
	}
	return a
}

// Part answers a times num by den, rounded towards 0; 0, if den is below 1.
//
// Both factors are clamped first, so their product fits into 62 bits.
func Part(a, num, den int) int {
	if den < 1 {
		return 0
	}
	return clampPart(a) * clampPart(num) / den
}

func clampPart(a int) int {
	return Clamp(a, -api.MaxPart, api.MaxPart)
}

// rootBits is how many bits the root of MaxInt has.
const rootBits = 32

// Root answers the greatest number whose square is at most n; 0, if n is
// below 1.
//
// It settles the root's bits from the highest down. A square is held against
// n by a division, since the square of a trial may run over.
func Root(n int) int {
	root := 0
	for i := range rootBits {
		trial := root + 1<<(rootBits-1-i)
		if trial <= n/trial {
			root = trial
		}
	}
	return root
}

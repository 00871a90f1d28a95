// Package fix is layer 1: saturating fixed-point numbers with 16 fractional bits: see shared/doc/01-fix.md.
package fix

import (
	"azulejo/api"
)

// Clamp returns n limited to the range of fixed-point numbers.
func Clamp(n int) int { return Within(n, api.MaxQ) }

// Within returns n limited to the range from -most to most.
// The lower bound is applied last, because a negative most answers -most.
func Within(n, most int) int { return max(-most, min(n, most)) }

// Floor returns a divided by b, rounded down, and 0 if b is 0.
func Floor(a, b int) int {
	if b == 0 {
		return 0
	}
	quotient, rest := a/b, a%b
	// Go's division rounds toward 0, which is up where the exact quotient is negative.
	if rest != 0 && (rest < 0) != (b < 0) {
		quotient--
	}
	return quotient
}

// Add returns the clamped sum of two clamped numbers.
func Add(a, b int) int { return Clamp(Clamp(a) + Clamp(b)) }

// Sub returns the clamped difference of two clamped numbers.
func Sub(a, b int) int { return Clamp(Clamp(a) - Clamp(b)) }

// Mul returns the clamped product of two clamped numbers, rounded down.
// Clamping first keeps the product below 2^62.
func Mul(a, b int) int { return Clamp(Floor(Clamp(a)*Clamp(b), api.One)) }

// Div returns the clamped quotient of two clamped numbers, rounded down.
// A division by 0 answers the limit on the side of a.
func Div(a, b int) int {
	if b == 0 {
		return limitOn(a)
	}
	return Clamp(Floor(api.One*Clamp(a), Clamp(b)))
}

func limitOn(n int) int {
	switch {
	case n > 0:
		return api.MaxQ
	case n < 0:
		return -api.MaxQ
	}
	return 0
}

// Of returns the fixed-point number of a whole number.
// Limiting n first keeps the product from overflowing; what is cut off is beyond MaxQ anyway.
func Of(n int) int { return Clamp(api.One * Within(n, api.One)) }

// Whole returns the whole part of a fixed-point number, rounded down.
func Whole(n int) int { return Floor(Clamp(n), api.One) }

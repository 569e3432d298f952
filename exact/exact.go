// Package exact is layer 1: see shared/doc/01-exact.md.
package exact

import "math"

// Add is the sum, if it fits.
func Add(a, b int) (int, bool) {
	sum := a + b
	// Only two numbers of one sign can miss, and then the sum's sign is the other one.
	if (a^sum)&(b^sum) < 0 {
		return 0, false
	}
	return sum, true
}

// Sub is the difference, if it fits.
func Sub(a, b int) (int, bool) {
	difference := a - b
	// Only two numbers of unlike signs can miss, and then the difference's sign isn't a's.
	if (a^b)&(a^difference) < 0 {
		return 0, false
	}
	return difference, true
}

// Mul is the product, if it fits.
func Mul(a, b int) (int, bool) {
	if a == 0 || b == 0 {
		return 0, true
	}
	// The quotient of this one product wraps as the product does, so the check below can't see it.
	if a == math.MinInt && b == -1 {
		return 0, false
	}
	product := a * b
	if product/b != a {
		return 0, false
	}
	return product, true
}

// Mid is half of the sum, rounded down.
func Mid(a, b int) int {
	// The bits that both have count whole, those that one has count half: no sum is made that could miss.
	return a&b + (a^b)>>1
}

// Next is one more.
func Next(n int) (int, bool) {
	return Add(n, 1)
}

// Prior is one less.
func Prior(n int) (int, bool) {
	return Sub(n, 1)
}

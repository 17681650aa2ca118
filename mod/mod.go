// Package mod is layer 1, modular arithmetic on integers without overflow: see shared/doc/01-mod.md.
package mod

import (
	"math/bits"

	"diapason/api"
)

// Gcd: the greatest common divisor.
func Gcd(a, b int64) int64 {
	if a < 0 || b < 0 {
		return -1
	}
	divisor, _ := euclid([2]int64{a, b})
	return divisor
}

// Mul: the remainder of the product.
func Mul(a, b, m int64) int64 {
	if !isModulus(m) {
		return -1
	}
	// A product of two remainders may need 124 bits.
	high, low := bits.Mul64(uint64(remainder(a, m)), uint64(remainder(b, m)))
	return int64(bits.Rem64(high, low, uint64(m)))
}

// Pow: the remainder of the power.
func Pow(a, e, m int64) int64 {
	if !isModulus(m) || e < 0 {
		return -1
	}
	power := remainder(1, m)
	square := a
	for e > 0 {
		if e&1 == 1 {
			power = Mul(power, square, m)
		}
		square = Mul(square, square, m)
		e >>= 1
	}
	return power
}

// Inverse: the number with which a's product leaves 1.
func Inverse(a, m int64) (int64, bool) {
	if !isModulus(m) {
		return 0, false
	}
	divisor, factor := euclid([2]int64{m, remainder(a, m)})
	if divisor != 1 {
		return 0, false
	}
	return remainder(factor, m), true
}

// Lcm: the least common multiple, if it isn't above most.
func Lcm(a, b, most int64) (int64, bool) {
	if a < 1 || b < 1 {
		return 0, false
	}
	part := a / Gcd(a, b)
	// The quotient is asked, as the product may be above every int64.
	if part > most/b {
		return 0, false
	}
	return part * b, true
}

// isModulus: is m a number that remainders are taken by?
func isModulus(m int64) bool { return m >= 1 && m <= api.MaxMod }

// remainder: from 0 to m - 1, where Go's own has the sign of x.
func remainder(x, m int64) int64 {
	r := x % m
	if r < 0 {
		r += m
	}
	return r
}

// euclid: the greatest common divisor of a pair, and a factor with which the pair's second number differs from it by a multiple of the first.
func euclid(pair [2]int64) (divisor, factor int64) {
	// No factor's magnitude is above the pair's greater number, so none overflows.
	factors := [2]int64{0, 1}
	for pair[1] != 0 {
		q := pair[0] / pair[1]
		pair = [2]int64{pair[1], pair[0] - q*pair[1]}
		factors = [2]int64{factors[1], factors[0] - q*factors[1]}
	}
	return pair[0], factors[0]
}

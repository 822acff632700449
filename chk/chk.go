// Package chk is layer 1: arithmetic of 64 bits that tells when a result leaves them (shared/doc/01-chk.md).
package chk

import (
	"math"

	"tabard/api"
)

// Add answers the sum, or ErrOver.
func Add(a, b int64) (int64, api.Errno) {
	sum := a + b
	// Only two numbers of one sign can leave 64 bits, and the sum then comes round to the other sign.
	if (a < 0) == (b < 0) && (sum < 0) != (a < 0) {
		return 0, api.ErrOver
	}
	return sum, api.OK
}

// Sub answers a - b, or ErrOver.
func Sub(a, b int64) (int64, api.Errno) {
	difference := a - b
	// Not Add of -b: the least number has no -b, though some differences with it are in range.
	if (a < 0) != (b < 0) && (difference < 0) != (a < 0) {
		return 0, api.ErrOver
	}
	return difference, api.OK
}

// Mul answers the product, or ErrOver.
func Mul(a, b int64) (int64, api.Errno) {
	if a == 0 || b == 0 {
		return 0, api.OK
	}
	// This one product comes round to a number that the division below gives back.
	if a == math.MinInt64 && b == -1 {
		return 0, api.ErrOver
	}
	product := a * b
	if product/b != a {
		return 0, api.ErrOver
	}
	return product, api.OK
}

// Neg answers -a, or ErrOver.
func Neg(a int64) (int64, api.Errno) {
	return Sub(0, a)
}

// Abs answers the absolute value, or ErrOver.
func Abs(a int64) (int64, api.Errno) {
	if a < 0 {
		return Neg(a)
	}
	return a, api.OK
}

// Half answers the greatest whole number that is at most a / 2.
func Half(a int64) int64 {
	// A shift goes down below 0 too, where a division would go towards 0.
	return a >> 1
}

// Rest answers the rest of a modulo m, from 0 to m - 1, or ErrRange.
func Rest(a, m int64) (int64, api.Errno) {
	if m < 1 {
		return 0, api.ErrRange
	}
	rest := a % m
	// The language's own rest has the sign of a.
	if rest < 0 {
		rest += m
	}
	return rest, api.OK
}

// Total answers the sum of the absolute values, or ErrOver.
func Total(list []int64) (int64, api.Errno) {
	total := int64(0)
	for _, number := range list {
		size, err := Abs(number)
		if err != api.OK {
			return 0, err
		}
		total, err = Add(total, size)
		if err != api.OK {
			return 0, err
		}
	}
	return total, api.OK
}

// Floor answers the greatest whole number that is at most a / b, or ErrRange, or ErrOver.
func Floor(a, b int64) (int64, api.Errno) {
	if b == 0 {
		return 0, api.ErrRange
	}
	if a == math.MinInt64 && b == -1 {
		return 0, api.ErrOver
	}
	quotient := a / b
	// The language's own quotient goes towards 0: one too high, where the true one is below 0 and not whole.
	if a%b != 0 && (a < 0) != (b < 0) {
		quotient--
	}
	return quotient, api.OK
}

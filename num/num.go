// Package num is layer 1: whole numbers that never go round. See shared/doc/01-num.md.
package num

import (
	"math"
	"math/bits"
)

// Add is the sum; false, if it needs more than 64 bits.
func Add(a, b uint64) (uint64, bool) {
	sum, carry := bits.Add64(a, b, 0)
	if carry != 0 {
		return 0, false
	}
	return sum, true
}

// Mul is the product; false, if it needs more than 64 bits.
func Mul(a, b uint64) (uint64, bool) {
	high, low := bits.Mul64(a, b)
	if high != 0 {
		return 0, false
	}
	return low, true
}

// Shift is a times 2 to the power n, also of n below 0, without what is left; false, if it needs more than 64 bits.
func Shift(a uint64, n int) (uint64, bool) {
	switch {
	case a == 0 || n <= -64: // asked ahead of -n, as the least int has no number opposite to it
		return 0, true
	case n < 0:
		return a >> uint(-n), true
	case n > bits.LeadingZeros64(a):
		return 0, false
	}
	return a << uint(n), true
}

// Ceil is a by b, from above; false, if b is 0.
func Ceil(a, b uint64) (uint64, bool) {
	if b == 0 {
		return 0, false
	}
	n := a / b
	if a%b != 0 {
		n++ // can't go round: something is left only by a b above 1
	}
	return n, true
}

// Gcd is the greatest common divisor; the other one, if one is 0.
func Gcd(a, b uint64) uint64 {
reduce:
	for {
		switch {
		case a == 0 || b == 0:
			break reduce
		case a < b:
			b %= a
		default:
			a %= b
		}
	}
	return a + b // one of them is 0
}

// Lcm is the least common multiple above 0; false, if one is 0, or it needs more than 64 bits.
func Lcm(a, b uint64) (uint64, bool) {
	if a == 0 || b == 0 {
		return 0, false
	}
	// Divided first: a times b may need more bits than what is asked for.
	return Mul(a/Gcd(a, b), b)
}

// Sum is the sum of all, at its end 2^64 less 1.
func Sum(first uint64, more ...uint64) uint64 {
	sum := first
	for _, n := range more {
		next, ok := Add(sum, n)
		if !ok {
			return math.MaxUint64
		}
		sum = next
	}
	return sum
}

// Times is the product, at its end 2^64 less 1.
func Times(a, b uint64) uint64 {
	product, ok := Mul(a, b)
	if !ok {
		return math.MaxUint64
	}
	return product
}

// Small are the narrow types.
type Small interface {
	~int8 | ~int16 | ~int32 | ~uint8 | ~uint16 | ~uint32
}

// Fit is a number as a narrow one; false, if T has no such number.
func Fit[T Small](n int64) (T, bool) {
	narrow := T(n)
	if int64(narrow) != n { // what was cut off doesn't come back
		return 0, false
	}
	return narrow, true
}

// Package proportion computes products and quotients of integers exactly, and divides amounts among parts without losing anything: see shared/doc/01-proportion.md.
package proportion

import (
	"math/bits"
	"slices"
	"spile/api"
)

// wide is a product of two amounts, which needs more than 64 bits: its upper and its lower word.
type wide [2]uint64

// multiply returns the product of two amounts.
func multiply(a, b int) wide {
	high, low := bits.Mul64(uint64(a), uint64(b))
	return wide{high, low}
}

// amounts reports whether all numbers are amounts.
func amounts(l ...int) bool {
	for _, x := range l {
		if x < 0 || x > api.MaxMass {
			return false
		}
	}
	return true
}

// Of returns the proportion a b / c and its remainder.
func Of(a, b, c int) (int, int, api.Errno) {
	if !amounts(a, b, c) {
		return 0, 0, api.ErrRange
	}
	if c == 0 {
		return 0, 0, api.ErrZero
	}
	p := multiply(a, b)
	// Div64 panics where the quotient needs more than one word.
	if p[0] >= uint64(c) {
		return 0, 0, api.ErrLimit
	}
	q, r := bits.Div64(p[0], p[1], uint64(c))
	if q > api.MaxMass {
		return 0, 0, api.ErrLimit
	}
	return int(q), int(r), api.OK
}

// Up returns the proportion a b / c, rounded up.
func Up(a, b, c int) (int, api.Errno) {
	q, r, e := Of(a, b, c)
	if e != api.OK {
		return 0, e
	}
	if r > 0 {
		q++
	}
	if q > api.MaxMass {
		return 0, api.ErrLimit
	}
	return q, api.OK
}

// Compare compares the ratios a : b and c : d.
func Compare(a, b, c, d int) (int, api.Errno) {
	if !amounts(a, b, c, d) {
		return 0, api.ErrRange
	}
	if b == 0 || d == 0 {
		return 0, api.ErrZero
	}
	left, right := multiply(a, d), multiply(c, b)
	return slices.Compare(left[:], right[:]), api.OK
}

// total returns the sum of weights, if they are right.
func total(weights []int) (int, api.Errno) {
	if len(weights) == 0 {
		return 0, api.ErrEmpty
	}
	if len(weights) > api.MaxShares {
		return 0, api.ErrTooLarge
	}
	// So few amounts have a sum far below 64 bits, but only if each of them is one.
	if !amounts(weights...) {
		return 0, api.ErrRange
	}
	sum := 0
	for _, w := range weights {
		sum += w
	}
	if !amounts(sum) {
		return 0, api.ErrRange
	}
	if sum == 0 {
		return 0, api.ErrZero
	}
	return sum, api.OK
}

// Divide returns the parts of an amount that is divided by weights.
func Divide(a int, weights []int) ([]int, api.Errno) {
	if !amounts(a) {
		return nil, api.ErrRange
	}
	sum, e := total(weights)
	if e != api.OK {
		return nil, e
	}
	parts := make([]int, len(weights))
	remainders := make([]int, len(weights))
	left := a
	for i, w := range weights {
		// No weight is greater than the sum, so no proportion is greater than a, and none is an error.
		parts[i], remainders[i], _ = Of(a, w, sum)
		left -= parts[i]
	}
	giveOut(left, parts, remainders)
	return parts, api.OK
}

// giveOut adds 1 to as many parts as are left, first to those with the greatest remainders.
func giveOut(left int, parts, remainders []int) {
	for range left {
		// Index finds the first one of equal remainders.
		i := slices.Index(remainders, slices.Max(remainders))
		parts[i]++
		remainders[i] = 0
	}
}

// Draw returns what is drawn of each part, and what stays of it.
func Draw(parts []int, a int) ([]int, []int, api.Errno) {
	drawn, e := Divide(a, parts)
	if e != api.OK {
		return nil, nil, e
	}
	if sum, _ := total(parts); a > sum {
		return nil, nil, api.ErrShort
	}
	stays := make([]int, len(parts))
	for i, p := range parts {
		stays[i] = p - drawn[i]
	}
	return drawn, stays, api.OK
}

// divisor returns the greatest common divisor of two amounts that are not both 0.
func divisor(a, b int) int {
	for b > 0 {
		a, b = b, a%b
	}
	return a
}

// Reduce returns two numbers, divided by their greatest common divisor.
func Reduce(a, b int) (int, int, api.Errno) {
	if !amounts(a, b) {
		return 0, 0, api.ErrRange
	}
	if b == 0 {
		return 0, 0, api.ErrZero
	}
	d := divisor(a, b)
	return a / d, b / d, api.OK
}

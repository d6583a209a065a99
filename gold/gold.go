// Package gold is layer 1: see shared/doc/01-gold.md.
package gold

import "deedhold/api"

// whole is what a part in ten thousand is a part of.
const whole = 10000

// mostParts is the most parts that an amount is split into.
const mostParts = 64

// Right: is it an amount?
func Right(n int) bool { return n >= 0 && n <= api.MaxGold }

// Add: two amounts.
func Add(a, b int) (int, api.Errno) { return Sum(a, b) }

// Sub: one from another one.
func Sub(a, b int) (int, api.Errno) {
	if !Right(a) || !Right(b) {
		return 0, api.ErrRange
	}
	if b > a {
		return 0, api.ErrFunds
	}
	return a - b, api.OK
}

// Times: so many of them.
func Times(a, n int) (int, api.Errno) {
	if !Right(a) || n < 0 {
		return 0, api.ErrRange
	}
	// Divided, because the product itself may not fit an int.
	if a > 0 && n > api.MaxGold/a {
		return 0, api.ErrOverflow
	}
	return a * n, api.OK
}

// Share: a part of it.
func Share(a, part int) (int, api.Errno) {
	if !Right(a) || part < 0 || part > whole {
		return 0, api.ErrRange
	}
	return a * part / whole, api.OK
}

// Split: into so many.
func Split(a, n int) ([]int, api.Errno) {
	if !Right(a) || n < 1 || n > mostParts {
		return nil, api.ErrRange
	}
	parts := make([]int, n)
	for i := range parts {
		parts[i] = a / n
		if i < a%n {
			parts[i]++
		}
	}
	return parts, api.OK
}

// Sum: of all.
func Sum(l ...int) (int, api.Errno) {
	total, over := 0, false
	for _, n := range l {
		if !Right(n) {
			return 0, api.ErrRange
		}
		// Past the limit nothing is added any more: so many amounts need not fit an int.
		if over || n > api.MaxGold-total {
			over = true
			continue
		}
		total += n
	}
	if over {
		return 0, api.ErrOverflow
	}
	return total, api.OK
}

// Step: what a bid must be more.
func Step(a int) (int, api.Errno) {
	if !Right(a) {
		return 0, api.ErrRange
	}
	return max(a/20, 1), api.OK
}

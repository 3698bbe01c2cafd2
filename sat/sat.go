// Package sat is layer 1: see shared/doc/01-sat.md.
package sat

import "math/bits"

// Most is the greatest number.
const Most = 1<<64 - 1

// Add, Sub and Mul are of two numbers what there is of them, at most Most, and at least 0.
func Add(a, b uint64) uint64 {
	// What there is room for above a tells it without a sum that wraps round.
	if b > Most-a {
		return Most
	}
	return a + b
}

func Sub(a, b uint64) uint64 {
	if b > a {
		return 0
	}
	return a - b
}

func Mul(a, b uint64) uint64 {
	high, low := bits.Mul64(a, b)
	if high > 0 {
		return Most
	}
	return low
}

// Sum are some numbers together; AtLeast tells whether a part is so many of a hundred of a whole, or more.
func Sum(l ...uint64) uint64 {
	var sum uint64
	for _, n := range l {
		sum = Add(sum, n)
	}
	return sum
}

func AtLeast(part, whole uint64, percent int) bool {
	if percent < 0 {
		percent = 0
	}
	// Both products may go over 64 bits, and Mul would make unlike ones equal: they are held against each other whole.
	haveHigh, haveLow := bits.Mul64(part, 100)
	wantHigh, wantLow := bits.Mul64(whole, uint64(percent))
	if haveHigh != wantHigh {
		return haveHigh > wantHigh
	}
	return haveLow >= wantLow
}

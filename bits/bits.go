// Package bits: floats in one order: see doc/01-bits.md.
package bits

import "math"

// The parts of a float's 64 bits by which its class is told.
const (
	signBit     uint64 = 1 << 63
	infinity    uint64 = 0x7FF << 52 // of the size's bits: anything above is a NaN
	leastNormal uint64 = 1 << 52
	lastOrder   uint64 = math.MaxUint64
)

// What Class answers.
const (
	classNaN = iota + 1
	classInfinity
	classNought
	classSubnormal
	classNormal
)

// Order tells f's place among all floats.
func Order(f float64) uint64 {
	n := math.Float64bits(f)
	if n&signBit == 0 {
		return n | signBit
	}
	// Below nought a greater size stands further ahead, so all bits turn.
	return ^n
}

// Of tells the float whose Order is n.
func Of(n uint64) float64 {
	if n&signBit != 0 {
		return math.Float64frombits(n &^ signBit)
	}
	return math.Float64frombits(^n)
}

// Compare tells -1, 0 or 1, as a stands ahead of b, at its place or behind it.
func Compare(a, b float64) int {
	x, y := Order(a), Order(b)
	switch {
	case x < y:
		return -1
	case x > y:
		return 1
	}
	return 0
}

// Same tells whether a and b have the same bits, which == doesn't tell of NaNs and noughts.
func Same(a, b float64) bool {
	return math.Float64bits(a) == math.Float64bits(b)
}

// Class tells 1 of a NaN, 2 of an infinity, 3 of a nought, 4 of a number below the least normal one in size, 5 of any other.
func Class(f float64) int {
	size := math.Float64bits(f) &^ signBit
	switch {
	case size > infinity:
		return classNaN
	case size == infinity:
		return classInfinity
	case size == 0:
		return classNought
	case size < leastNormal:
		return classSubnormal
	}
	return classNormal
}

// Next tells the float with the next greater Order, and true; f itself and false of the last one.
func Next(f float64) (float64, bool) {
	n := Order(f)
	if n == lastOrder {
		return f, false
	}
	return Of(n + 1), true
}

// Least tells the one of l with the least Order, and true; 0 and false of none.
func Least(l []float64) (float64, bool) {
	if len(l) == 0 {
		return 0, false
	}
	least := l[0]
	for _, f := range l[1:] {
		if Compare(f, least) < 0 {
			least = f
		}
	}
	return least, true
}

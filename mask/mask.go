// Package mask is layer 1: sets of units as bits. Unit k is in a mask, if the bit of the worth 2 to the k is 1.
package mask

import (
	"iter"
	"math/bits"

	"ensemble/api"
)

// width is how many units a mask can tell.
const width = 64

// First is the units 0 to n - 1; n below 0 counts as 0, above 64 as 64.
func First(n int) uint64 {
	// A shift by all 64 bits leaves 0, and 0 less 1 wraps round to every unit.
	return uint64(1)<<min(max(n, 0), width) - 1
}

// Count is how many units are in m.
func Count(m uint64) int {
	return bits.OnesCount64(m)
}

// Lowest is those n units of m that are the lowest.
func Lowest(m uint64, n int) (uint64, api.Errno) {
	if n < 0 {
		return 0, api.ErrRange
	}
	if Count(m) < n {
		return 0, api.ErrFull
	}
	var low uint64
	for k := range rising(m) {
		if n == 0 {
			break
		}
		low |= bit(k)
		n--
	}
	return low, api.OK
}

// Units is the units of m, rising.
func Units(m uint64) []int {
	units := make([]int, 0, Count(m))
	for k := range rising(m) {
		units = append(units, k)
	}
	return units
}

// Of is the mask of units; its error is that of the first one from the left that is wrong.
func Of(units ...int) (uint64, api.Errno) {
	var m uint64
	for _, k := range units {
		if k < 0 || k >= width {
			return 0, api.ErrRange
		}
		if m&bit(k) != 0 {
			return 0, api.ErrTwice
		}
		m |= bit(k)
	}
	return m, api.OK
}

// bit is the mask of unit k alone; k must be 0 to 63.
func bit(k int) uint64 {
	return uint64(1) << k
}

// rising goes through the units of m, the lowest one first.
func rising(m uint64) iter.Seq[int] {
	return func(yield func(int) bool) {
		// rest is a variable of its own, so that the sequence can be gone through again.
		for rest := m; rest != 0; rest &= rest - 1 {
			if !yield(bits.TrailingZeros64(rest)) {
				return
			}
		}
	}
}

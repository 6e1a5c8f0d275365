// Package sat is layer 1: numbers that do not go round. See shared/doc/01-sat.md.
package sat

import (
	"math"
	"math/bits"

	"canter/api"
)

// Add: the sum; 2^64 - 1, if it is greater.
func Add(a, b uint64) uint64 {
	sum, carry := bits.Add64(a, b, 0)
	if carry != 0 {
		return math.MaxUint64
	}
	return sum
}

// Sub: the difference; 0, if it is less.
func Sub(a, b uint64) uint64 {
	if a < b {
		return 0
	}
	return a - b
}

// Mul: the product; 2^64 - 1, if it is greater.
func Mul(a, b uint64) uint64 {
	high, low := bits.Mul64(a, b)
	if high != 0 {
		return math.MaxUint64
	}
	return low
}

// Sum: of all; ErrOver, if it is more than 2^64 - 1.
func Sum(l ...uint64) (uint64, api.Errno) {
	total, errno := uint64(0), api.OK
walk:
	for _, v := range l {
		switch sum, carry := bits.Add64(total, v, 0); carry {
		case 0:
			total = sum
		default:
			// No number is below 0: what is too much once stays so, whatever comes behind it.
			total, errno = 0, api.ErrOver
			break walk
		}
	}
	return total, errno
}

// Int: v; 2^63 - 1, if it is greater.
func Int(v uint64) int {
	if v > math.MaxInt64 {
		return math.MaxInt64
	}
	return int(v)
}

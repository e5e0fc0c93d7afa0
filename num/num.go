// Package num: numbers that stay in bounds: layer 1: see shared/doc/01-num.md.
package num

import (
	"math"
	"math/bits"

	"raceway/api"
)

// Add, Sub and Mul tell when they go beyond 64 bits; Sum adds a row.
func Add(a, b int64) (int64, api.Errno) {
	sum := a + b
	// The sum goes round just when it does not lie on b's side of a.
	if (sum < a) != (b < 0) {
		return 0, api.ErrRange
	}
	return sum, api.OK
}

func Sub(a, b int64) (int64, api.Errno) {
	difference := a - b
	if (difference > a) != (b < 0) {
		return 0, api.ErrRange
	}
	return difference, api.OK
}

func Mul(a, b int64) (int64, api.Errno) {
	most := uint64(math.MaxInt64)
	// Below 0 there is one number more than above it.
	if (a < 0) != (b < 0) {
		most++
	}
	high, low := bits.Mul64(size(a), size(b))
	if high != 0 || low > most {
		return 0, api.ErrRange
	}
	return a * b, api.OK
}

func Sum(l []int64) (sum int64, e api.Errno) {
	defer func() {
		// Nothing in a row panics but a sum that goes beyond.
		if recover() != nil {
			sum, e = 0, api.ErrRange
		}
	}()
	return row(l), api.OK
}

// Log is the least power of two that is no less, Floor the greatest that is no more.
func Log(n int64) int {
	if n < 2 {
		return 0
	}
	return bits.Len64(uint64(n - 1))
}

func Floor(n int64) int64 {
	if n < 1 {
		return 0
	}
	return 1 << (bits.Len64(uint64(n)) - 1)
}

// row panics, so that no step of it has to look after an error.
func row(l []int64) int64 {
	var sum int64
	for _, n := range l {
		sum = mustAdd(sum, n)
	}
	return sum
}

func mustAdd(a, b int64) int64 {
	sum, e := Add(a, b)
	if e != api.OK {
		panic(e)
	}
	return sum
}

// size has no sign, since that of -2^63 is beyond an int64.
func size(n int64) uint64 {
	if n < 0 {
		return -uint64(n)
	}
	return uint64(n)
}

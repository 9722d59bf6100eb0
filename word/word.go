// Package word: words without a branch: layer 1: see shared/doc/01-word.md.
package word

import (
	"math/bits"

	"shellgame/api"
)

// largest is the greatest power of two that an int holds.
const largest = 1 << 62

// Zero, Equal and Less are masks: all bits, or none.
func Zero(n uint64) uint64 {
	// Of n and -n one has the highest bit, unless n is 0.
	return (n|-n)>>63 - 1
}

func Equal(a, b uint64) uint64 { return Zero(a ^ b) }

func Less(a, b uint64) uint64 {
	// a - b borrows just if a is less; a compare would be a branch.
	_, borrow := bits.Sub64(a, b, 0)
	return -borrow
}

// Pick is one of two words by a mask, Swap both, turned or not; likewise cells.
func Pick(mask, a, b uint64) uint64 { return mask&a | ^mask&b }

func Swap(mask, a, b uint64) (uint64, uint64) {
	return Pick(mask, b, a), Pick(mask, a, b)
}

func PickCell(mask uint64, a, b api.Cell) api.Cell {
	var picked api.Cell
	for i := range picked {
		picked[i] = Pick(mask, a[i], b[i])
	}
	return picked
}

func SwapCell(mask uint64, a, b api.Cell) (api.Cell, api.Cell) {
	return PickCell(mask, b, a), PickCell(mask, a, b)
}

// Log is how many times a number can be halved, Round the next power of two.
func Log(n uint64) int {
	// The lowest bit never moves the highest one, and makes 0 answer as 1 does.
	return bits.Len64(n|1) - 1
}

func Round(n int) int {
	size := min(max(n, 1), largest)
	// One less, so that a power of two is its own answer.
	return 1 << bits.Len64(uint64(size-1))
}

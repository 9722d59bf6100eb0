package policy_test

import (
	"math"
	"math/big"
	"slices"

	"shellgame/policy"
)

const greatest = math.MaxUint64

// The twin says the chapter once more, from numbers that are written out, and reckons without a bound.

func number(n uint64) *big.Int { return new(big.Int).SetUint64(n) }

func sum(a, b *big.Int) *big.Int { return new(big.Int).Add(a, b) }

func less(a, b *big.Int) *big.Int { return new(big.Int).Sub(a, b) }

// modulo is a remainder that is never below 0.
func modulo(a, b *big.Int) *big.Int { return new(big.Int).Mod(a, b) }

// rankOf is what counts of a rank.
func rankOf(x policy.Item) *big.Int { return modulo(number(x.Rank), number(4611686018427387904)) }

func keyOf(x policy.Item) uint64 {
	if x.Expired {
		return rankOf(x).Uint64()
	}
	return sum(number(4611686018427387904), rankOf(x)).Uint64()
}

func blankOf(cell int) uint64 {
	return sum(number(9223372036854775808), modulo(big.NewInt(int64(cell)), number(2147483648))).Uint64()
}

// round is that int which goes round to n.
func round(n *big.Int) int {
	half := number(9223372036854775808)
	return int(less(modulo(sum(n, half), number(0).Lsh(number(1), 64)), half).Int64())
}

func manyOf(resident, expired, capacity, batch int) int {
	over := round(less(big.NewInt(int64(resident)), big.NewInt(int64(capacity))))
	many := over
	if expired > over {
		many = expired
	}
	if batch < many {
		many = batch
	}
	if many < 0 {
		return 0
	}
	return many
}

// aheadOf tells whether a goes ahead of b, wherever they stand in the list.
func aheadOf(a, b policy.Item) bool {
	if a.Expired != b.Expired {
		return a.Expired
	}
	if by := rankOf(a).Cmp(rankOf(b)); by != 0 {
		return by < 0
	}
	return a.Cell < b.Cell
}

// victimsOf takes one after the other, each time the one that nobody who is left goes ahead of.
func victimsOf(l []policy.Item, capacity, batch int) []int {
	expired := 0
	for _, x := range l {
		if x.Expired {
			expired++
		}
	}
	left := append([]policy.Item(nil), l...)
	var cells []int
	for many := manyOf(len(l), expired, capacity, batch); many > 0 && len(left) > 0; many-- {
		first := 0
		for at := range left {
			if aheadOf(left[at], left[first]) {
				first = at
			}
		}
		cells = append(cells, left[first].Cell)
		left = slices.Delete(left, first, first+1)
	}
	return cells
}

// chance makes words without a pattern, the same ones in each run.
type chance uint64

func (c *chance) next() uint64 {
	*c = *c*6364136223846793005 + 1442695040888963407
	return uint64(*c) >> 32
}

func (c *chance) word() uint64 {
	high := c.next()
	return high<<32 | c.next()
}

// below is a number from 0 on, of so many.
func (c *chance) below(many int) int { return int(c.next() % uint64(many)) }

func (c *chance) yes() bool { return c.below(2) == 1 }

// shuffle puts items into another order.
func (c *chance) shuffle(l []policy.Item) {
	for i := range l {
		j := i + c.below(len(l)-i)
		l[i], l[j] = l[j], l[i]
	}
}

// items are so many, of so many ranks and cells.
func (c *chance) items(many, ranks, cells int) []policy.Item {
	l := make([]policy.Item, many)
	for i := range l {
		l[i] = policy.Item{Cell: c.below(cells), Rank: uint64(c.below(ranks)), Expired: c.yes()}
	}
	return l
}

// ranks are edges of a word: the least and the greatest, each power of two and its neighbours.
func ranks() []uint64 {
	l := []uint64{0, 2, 3, 5, 7, 9, 100, greatest, greatest - 1, 3 << 62, 3<<62 - 1, 3<<62 + 1, 1<<63 + 1<<61}
	for i := range 64 {
		l = append(l, 1<<i-1, 1<<i, 1<<i+1, greatest-1<<i, ^uint64(0)<<i)
	}
	return l
}

// ints are edges of an int: the least and the greatest, each power of two and its neighbours, above and below 0.
func ints() []int {
	l := []int{0, 5, 7, 10, 100, -5, -7, math.MinInt, math.MinInt + 1, math.MaxInt, math.MaxInt - 1}
	for i := range 63 {
		l = append(l, 1<<i-1, 1<<i, 1<<i+1, -1<<i, -1<<i-1, -1<<i+1)
	}
	return l
}

// fewInts are those that each number of four may be.
func fewInts() []int {
	return []int{
		math.MinInt, math.MinInt + 1, math.MinInt + 2, math.MinInt/2 - 1, math.MinInt / 2, -1 << 32, -17, -2, -1, 0, 1, 2, 3, 16, 64,
		1 << 31, 1 << 32, math.MaxInt/2 + 1, math.MaxInt - 2, math.MaxInt - 1, math.MaxInt,
	}
}

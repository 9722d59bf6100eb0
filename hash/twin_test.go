package hash_test

import (
	"math"
	"math/big"
	"slices"

	"shellgame/hash"
)

const greatest = math.MaxUint64

// The twin reckons with numbers without a bound, and takes them modulo 2^64 where H1 and H2 say so.
func number(n uint64) *big.Int { return new(big.Int).SetUint64(n) }

func modulus() *big.Int { return new(big.Int).Lsh(big.NewInt(1), 64) }

func product(a, b *big.Int) *big.Int {
	p := new(big.Int).Mul(a, b)
	return p.Mod(p, modulus())
}

func sum(a, b *big.Int) *big.Int {
	s := new(big.Int).Add(a, b)
	return s.Mod(s, modulus())
}

// stirFactor is that of H1, written in tens.
func stirFactor() *big.Int {
	n, _ := new(big.Int).SetString("11400714819323198485", 10)
	return n
}

// together takes a number and it shifted down together, a bit at a time.
func together(n *big.Int, by int) *big.Int {
	taken := new(big.Int)
	for i := range 64 {
		if n.Bit(i) != n.Bit(i+by) {
			taken.SetBit(taken, i, 1)
		}
	}
	return taken
}

// apart undoes together, from the highest bit down.
func apart(taken *big.Int, by int) *big.Int {
	n := new(big.Int)
	for i := 63; i >= 0; i-- {
		if taken.Bit(i) != n.Bit(i+by) {
			n.SetBit(n, i, 1)
		}
	}
	return n
}

func mixed(n *big.Int) *big.Int {
	return together(product(together(n, 29), stirFactor()), 32)
}

// unmixed tells the word that was stirred, which there is just one of, if H3 holds.
func unmixed(n uint64) uint64 {
	inverse := new(big.Int).ModInverse(stirFactor(), modulus())
	return apart(product(apart(number(n), 32), inverse), 29).Uint64()
}

// placeOf says H2 of a right table and a right size.
func placeOf(h hash.Hash, table int, key uint64, size int) int {
	times, plus := h.A, h.B
	if table == 1 {
		times, plus = h.C, h.D
	}
	odd := sum(product(big.NewInt(2), number(times)), big.NewInt(1))
	stirred := mixed(sum(product(number(key), odd), number(plus)))
	return int(stirred.Mod(stirred, big.NewInt(int64(size))).Int64())
}

// sizes are all that are right, written out.
func sizes() []int { return []int{1, 2, 4, 8, 16, 32, 64, 128, 256, 512, 1024} }

// wrongSizes are the edges of an int, powers of two that are too great or negative, and the neighbours of each power.
func wrongSizes() []int {
	l := []int{
		0, 3, 5, 6, 7, 9, 10, 12, 24, 96, 100, 384, 768, 1000, 1022, 1023, 1025, 1026, 1536, 2047, 2048, 2049, 3072, 4096,
		-1, -2, -3, -4, -5, -8, -12, -16, -1023, -1024, -1025, -2048,
		math.MaxInt, math.MaxInt - 1, math.MaxInt - 1023, math.MinInt, math.MinInt + 1, math.MinInt + 2, math.MinInt + 1024,
	}
	for i := range 63 {
		l = append(l, 1<<i-1, 1<<i, 1<<i+1, 1<<i+8, 1<<i+1024, -(1 << i), -(1<<i)+1024)
	}
	return slices.DeleteFunc(l, func(size int) bool { return slices.Contains(sizes(), size) })
}

// wrongTables are all kinds of numbers but 0 and 1.
func wrongTables() []int {
	l := []int{
		-1, -2, -3, -255, -256, -1 << 32, -1<<32 + 1, math.MinInt, math.MinInt + 1, math.MinInt + 2,
		2, 3, 4, 5, 7, 255, 256, 257, 1 << 16, 1<<16 + 1, 1 << 32, 1<<32 + 1, 1 << 62, 1<<62 + 1, math.MaxInt - 1, math.MaxInt,
	}
	for i := 1; i < 63; i++ {
		l = append(l, 1<<i, 1<<i+1, -(1 << i), -(1<<i)-1)
	}
	return l
}

// chance makes words without a pattern, the same ones in each run.
type chance uint64

func (c *chance) word() uint64 {
	high := c.next()
	return high<<32 | c.next()
}

func (c *chance) next() uint64 {
	*c = *c*6364136223846793005 + 1442695040888963407
	return uint64(*c) >> 32
}

// edges are words: the least and the greatest, each power of two and its neighbours.
func edges() []uint64 {
	l := []uint64{0, 1, 2, 3, greatest, greatest - 1, 0xFFFFFFFF, 1 << 32, 0x5555555555555555, 0xAAAAAAAAAAAAAAAA}
	for i := range 64 {
		l = append(l, 1<<i, 1<<i-1, 1<<i+1, greatest-1<<i, ^uint64(0)<<i, ^uint64(0)>>i)
	}
	slices.Sort(l)
	return slices.Compact(l)
}

// words are edges, and some without a pattern.
func words(many int) []uint64 {
	l := edges()
	c := chance(many)
	for range many {
		l = append(l, c.word())
	}
	return l
}

// hashes are of small words, of those at the edges, of great ones, and without a pattern.
func hashes() []hash.Hash {
	l := []hash.Hash{
		{}, {A: 1}, {B: 1}, {C: 1}, {D: 1}, {A: 5, B: 6, C: 7, D: 8},
		{A: greatest}, {B: greatest}, {C: greatest}, {D: greatest},
		{A: greatest, B: greatest, C: greatest, D: greatest},
		{A: greatest - 1, B: greatest, C: greatest, D: greatest - 1},
		{A: 1 << 63, B: 1 << 63, C: 1 << 62, D: 1<<63 + 1},
		{A: 1<<63 - 1, B: 1 << 62, C: 1<<63 + 1, D: 1<<63 - 1},
	}
	c := chance(12)
	for range 12 {
		l = append(l, hash.Hash{A: c.word(), B: c.word(), C: c.word(), D: c.word()})
	}
	return l
}

// keys are words at the edges, of short texts, and without a pattern.
func keys() []uint64 {
	l := []uint64{
		0, 1, 2, 3, 9, 1<<56 + 107, 1<<56 + 106, 2<<56 + 25185, 7<<56 + 1<<56 - 1, 1 << 29, 1 << 32, 1 << 62, 1 << 63, 1<<63 - 1, 1<<63 + 1,
		greatest, greatest - 1, greatest >> 1, greatest / 3,
	}
	c := chance(7)
	for range 12 {
		l = append(l, c.word())
	}
	return l
}

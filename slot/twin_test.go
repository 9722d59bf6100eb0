package slot_test

import (
	"math"
	"math/big"
	"strings"

	"shellgame/api"
	"shellgame/slot"
)

const greatest = math.MaxUint64

// top is how many times the highest byte of a text's word counts.
const top = 1 << 56

// The twin says the chapter once more, from numbers that are written out, without the calls of any layer.

// wordOf is a text's word: the first byte counts once, each next one 256 times as much.
func wordOf(s string) uint64 {
	n := uint64(len(s)) * top
	weight := uint64(1)
	for i := 0; i < len(s); i++ {
		n += uint64(s[i]) * weight
		weight *= 256
	}
	return n
}

// isText tells by quotients whether a word is that of a text: nothing may be left over behind as many bytes as it has.
func isText(n uint64) bool {
	many, rest := n/top, n%top
	for range min(many, 7) {
		rest /= 256
	}
	return many <= 7 && rest == 0
}

func rightSlot(s slot.Slot) bool {
	others := []uint64{s.Key, s.Value, s.Until, s.Rank, s.Uses}
	if s.Used {
		return isText(others[0]) && isText(others[1]) && s.Next == 0
	}
	for _, n := range others {
		if n > 0 {
			return false
		}
	}
	return s.Next > -1 && s.Next < 2147483649
}

// dataOf lays a right slot out word by word.
func dataOf(s slot.Slot) api.Data {
	if !rightSlot(s) {
		return api.Data{}
	}
	used := uint64(0)
	if s.Used {
		used = 1
	}
	return api.Data{used, s.Key, s.Value, s.Until, s.Rank, s.Uses, uint64(s.Next), 0}
}

// slotOf tells from a block's words alone whether there is a slot of it, and which.
func slotOf(d api.Data) (slot.Slot, bool) {
	switch {
	case d[0] == 1:
		s := slot.Slot{Used: true, Key: d[1], Value: d[2], Until: d[3], Rank: d[4], Uses: d[5]}
		if !isText(d[1]) || !isText(d[2]) || d[6] != 0 || d[7] != 0 {
			return slot.Slot{}, false
		}
		return s, true
	case d == api.Data{6: d[6]} && d[6] <= 2147483648:
		return slot.Slot{Next: int(d[6])}, true
	}
	return slot.Slot{}, false
}

func expired(s slot.Slot, now uint64) bool {
	switch {
	case !s.Used, s.Until == 0, now < s.Until:
		return false
	}
	return true
}

// number, product and sum reckon without a bound; lower takes that modulo 2^64.
func number(n uint64) *big.Int { return new(big.Int).SetUint64(n) }

func product(a, b *big.Int) *big.Int { return new(big.Int).Mul(a, b) }

func sum(a, b *big.Int) *big.Int { return new(big.Int).Add(a, b) }

func lower(n *big.Int) uint64 {
	return new(big.Int).Mod(n, new(big.Int).Lsh(big.NewInt(1), 64)).Uint64()
}

// ranks are a Rank and the Uses.
type ranks struct{ rank, uses uint64 }

func enter(policy int, now uint64) ranks {
	got := ranks{}
	got.rank, got.uses = slot.Enter(policy, now)
	return got
}

func use(policy int, s slot.Slot, now uint64) ranks {
	got := ranks{}
	got.rank, got.uses = slot.Use(policy, s, now)
	return got
}

// entered and used say S3, of policies by their numbers: 0 is LRU, 1 FIFO, 2 LFU.
func entered(policy int, now uint64) ranks {
	switch policy {
	case 0, 1:
		return ranks{now, 1}
	case 2:
		return ranks{lower(sum(number(4294967296), number(now))), 1}
	}
	return ranks{}
}

func used(policy int, s slot.Slot, now uint64) ranks {
	more := sum(number(s.Uses), number(1))
	switch policy {
	case 0:
		return ranks{now, lower(more)}
	case 1:
		return ranks{s.Rank, lower(more)}
	case 2:
		return ranks{lower(sum(product(number(4294967296), more), number(now))), lower(more)}
	}
	return ranks{s.Rank, s.Uses}
}

// chance makes words without a pattern, the same ones in each run.
type chance uint64

func (c *chance) word() uint64 {
	high := c.next()
	return high<<32 | c.next()
}

func (c *chance) next() uint64 {
	*c = *c*6364136223846793005 + 1442695040888963407
	return uint64(*c) >> 32
}

// below is a number from 0 on, of so many.
func (c *chance) below(many int) int { return int(c.next() % uint64(many)) }

// texts are short ones, of each length, of bytes of any kind.
func texts() []string {
	l := []string{"", "k", "vv", "k v", "abcdefg", "gfedcba", "\x01\x00", "\x00\x01", "\u00e9\u00e9", "\n\t\r\v"}
	for many := 1; many <= 7; many++ {
		for _, b := range []byte{0, 1, 'a', 0x7f, 0x80, 0xff} {
			l = append(l, strings.Repeat(string([]byte{b}), many))
		}
	}
	return l
}

// words are those of texts.
func words() []uint64 {
	var l []uint64
	for _, s := range texts() {
		l = append(l, wordOf(s))
	}
	return l
}

// noWords are no texts': of lengths above 7, and with something behind the text.
func noWords() []uint64 {
	l := []uint64{
		1, 2, 255, 256, 'k', top - 1, 8 * top, 8*top - 1<<55 + 1<<59, 9 * top, 16 * top, 128 * top, 255 * top, greatest, greatest - 1,
		1 << 59, 1<<59 + 1, 1 << 60, 1 << 62, 1 << 63, 1<<63 + wordOf("k"), 1<<59 + wordOf("k"), 1<<32 - 1,
	}
	for many := range uint64(7) {
		for at := many; at < 7; at++ {
			l = append(l, many*top+1<<(8*at), many*top+128<<(8*at), many*top+255<<(8*at))
		}
	}
	for _, s := range texts() {
		l = append(l, wordOf(s)+8*top, wordOf(s)+128*top)
	}
	return l
}

// numbers are edges of a word: the least and the greatest, each power of two and its neighbours.
func numbers() []uint64 {
	l := []uint64{0, 2, 3, 7, 9, 100, greatest, greatest - 1, 1<<32 + 7, 1<<33 + 9}
	for i := range 64 {
		l = append(l, 1<<i-1, 1<<i, 1<<i+1, greatest-1<<i, ^uint64(0)<<i)
	}
	return l
}

// nexts are those of slots that are not used, noNexts are none's.
func nexts() []int {
	l := []int{0, 2147483648, 2147483647, 2147483646, 3, 5, 80}
	for i := range 32 {
		l = append(l, 1<<i)
	}
	return l
}

func noNexts() []int {
	l := []int{2147483649, 2147483650, 4294967295, 4294967297, math.MaxInt, math.MaxInt - 1, math.MinInt, math.MinInt + 1, -1, -2, -5}
	for i := 32; i < 63; i++ {
		l = append(l, 1<<i, 1<<i+1, 1<<i+1<<31)
	}
	for i := range 63 {
		l = append(l, -1<<i, -1<<i-1)
	}
	return l
}

// wrongPolicies are all kinds of numbers but 0 to 2.
func wrongPolicies() []int {
	l := []int{-1, -2, -3, math.MinInt, math.MinInt + 1, math.MinInt + 2, 3, 4, 5, 6, 7, math.MaxInt, math.MaxInt - 1}
	for i := 2; i < 63; i++ {
		l = append(l, 1<<i, 1<<i+1, 1<<i+2, -1<<i, -1<<i+1, -1<<i+2)
	}
	return l
}

package word_test

import (
	"math"
	"testing"

	"shellgame/api"
	"shellgame/word"
)

const (
	all  = math.MaxUint64
	none = 0
)

// samples are the edges of a word, each power of two with its neighbours, and some words without a pattern.
func samples() []uint64 {
	l := []uint64{0, all, 0x5555555555555555, 0xaaaaaaaaaaaaaaaa, 0x0123456789abcdef, 0xdeadbeef00c0ffee}
	for i := range 64 {
		l = append(l, 1<<i-1, 1<<i, 1<<i+1, -(uint64(1) << i))
	}
	return l
}

func maskOf(yes bool) uint64 {
	if yes {
		return all
	}
	return none
}

// bitwise says W2 word for word: one bit after the other.
func bitwise(mask, a, b uint64) uint64 {
	var out uint64
	for i := range 64 {
		from := b
		if mask>>i&1 == 1 {
			from = a
		}
		out |= from & (1 << i)
	}
	return out
}

// cellFrom makes a cell whose twelve words differ from each other.
func cellFrom(n uint64) api.Cell {
	var c api.Cell
	for i := range c {
		c[i] = n*0x9e3779b97f4a7c15 + uint64(i)*0xbf58476d1ce4e5b9
	}
	return c
}

// W1.

func TestZeroIsAMask(t *testing.T) {
	for _, n := range samples() {
		if got := word.Zero(n); got != maskOf(n == 0) {
			t.Errorf("Zero(%#x) = %#x", n, got)
		}
	}
}

func TestEqualAndLessAreMasks(t *testing.T) {
	for _, a := range samples() {
		for _, b := range samples() {
			if got := word.Equal(a, b); got != maskOf(a == b) {
				t.Errorf("Equal(%#x, %#x) = %#x", a, b, got)
			}
			if got := word.Less(a, b); got != maskOf(a < b) {
				t.Errorf("Less(%#x, %#x) = %#x", a, b, got)
			}
		}
	}
}

func TestMaskEdges(t *testing.T) {
	for _, c := range []struct{ a, b, zero, equal, less uint64 }{
		{0, 0, all, all, none},
		{0, all, all, none, all},
		{all, 0, none, none, none},
		{all, all, none, all, none},
		{all - 1, all, none, none, all},
		{1 << 63, 1<<63 - 1, none, none, none},
		{1<<63 - 1, 1 << 63, none, none, all},
	} {
		if z, e, l := word.Zero(c.a), word.Equal(c.a, c.b), word.Less(c.a, c.b); z != c.zero || e != c.equal || l != c.less {
			t.Errorf("%#x, %#x: zero %#x, equal %#x, less %#x", c.a, c.b, z, e, l)
		}
	}
}

// W2.

func TestPickAndSwapBitByBit(t *testing.T) {
	words := []uint64{0, 1, 7, 9, all, 1 << 63, 0x5555555555555555, 0x0123456789abcdef}
	for _, mask := range samples() {
		for _, a := range words {
			for _, b := range words {
				if got, want := word.Pick(mask, a, b), bitwise(mask, a, b); got != want {
					t.Errorf("Pick(%#x, %#x, %#x) = %#x, want %#x", mask, a, b, got, want)
				}
				x, y := word.Swap(mask, a, b)
				if wantX, wantY := bitwise(mask, b, a), bitwise(mask, a, b); x != wantX || y != wantY {
					t.Errorf("Swap(%#x, %#x, %#x) = %#x, %#x, want %#x, %#x", mask, a, b, x, y, wantX, wantY)
				}
			}
		}
	}
}

func TestPickByBitsThatAreNoMask(t *testing.T) {
	if got := word.Pick(0b1100, 0b1010, 0b0101); got != 0b1001 {
		t.Errorf("Pick = %b", got)
	}
	if a, b := word.Swap(0b1100, 0b1010, 0b0101); a != 0b0110 || b != 0b1001 {
		t.Errorf("Swap = %b, %b", a, b)
	}
}

func TestCellsWordByWord(t *testing.T) {
	a, b := cellFrom(1), cellFrom(2)
	keptA, keptB := a, b
	for _, mask := range samples() {
		picked := word.PickCell(mask, a, b)
		first, second := word.SwapCell(mask, a, b)
		for i := range api.Words {
			ofA, ofB := bitwise(mask, a[i], b[i]), bitwise(mask, b[i], a[i])
			if picked[i] != ofA {
				t.Errorf("PickCell(%#x), word %d: %#x, want %#x", mask, i, picked[i], ofA)
			}
			if first[i] != ofB || second[i] != ofA {
				t.Errorf("SwapCell(%#x), word %d: %#x, %#x, want %#x, %#x", mask, i, first[i], second[i], ofB, ofA)
			}
		}
	}
	if a != keptA || b != keptB {
		t.Error("a cell that was handed in is changed")
	}
}

// W3.

func TestLogCountsTheBitsBehindTheHighest(t *testing.T) {
	for _, n := range samples() {
		want := 0
		for rest := n; rest > 1; rest /= 2 {
			want++
		}
		if got := word.Log(n); got != want {
			t.Errorf("Log(%#x) = %d, want %d", n, got, want)
		}
	}
}

func TestLogEdges(t *testing.T) {
	for _, c := range []struct {
		n    uint64
		want int
	}{{0, 0}, {1, 0}, {2, 1}, {3, 1}, {4, 2}, {1<<63 - 1, 62}, {1 << 63, 63}, {all, 63}} {
		if got := word.Log(c.n); got != c.want {
			t.Errorf("Log(%#x) = %d, want %d", c.n, got, c.want)
		}
	}
}

func TestRoundIsTheLeastPowerThatHolds(t *testing.T) {
	numbers := []int{}
	for n := -3; n <= 5000; n++ {
		numbers = append(numbers, n)
	}
	for i := range 63 {
		numbers = append(numbers, 1<<i-1, 1<<i, 1<<i+1)
	}
	for _, n := range numbers {
		want := 1
		for want < n && want < 1<<62 {
			want *= 2
		}
		if got := word.Round(n); got != want {
			t.Errorf("Round(%d) = %d, want %d", n, got, want)
		}
	}
}

func TestRoundEdges(t *testing.T) {
	for _, c := range []struct{ n, want int }{
		{math.MinInt64, 1}, {math.MinInt64 + 1, 1}, {-1, 1}, {0, 1}, {1, 1}, {2, 2}, {3, 4},
		{1<<61 - 1, 1 << 61}, {1 << 61, 1 << 61}, {1<<61 + 1, 1 << 62},
		{1<<62 - 1, 1 << 62}, {1 << 62, 1 << 62}, {1<<62 + 1, 1 << 62},
		{math.MaxInt64 - 1, 1 << 62}, {math.MaxInt64, 1 << 62},
	} {
		if got := word.Round(c.n); got != c.want {
			t.Errorf("Round(%d) = %d, want %d", c.n, got, c.want)
		}
	}
}

// W4.

func TestPickWithAMaskIsOneOfBoth(t *testing.T) {
	for _, a := range samples() {
		b := ^a>>1 + 3
		if yes, no := word.Pick(all, a, b), word.Pick(none, a, b); yes != a || no != b {
			t.Errorf("Pick of %#x, %#x: %#x, %#x", a, b, yes, no)
		}
		x, y := cellFrom(a), cellFrom(b)
		if word.PickCell(all, x, y) != x || word.PickCell(none, x, y) != y {
			t.Errorf("PickCell of the cells from %#x, %#x is neither", a, b)
		}
	}
}

func TestSwappedTwiceIsAsItWas(t *testing.T) {
	for _, mask := range samples() {
		for _, a := range samples() {
			b := ^a>>1 + 3
			x, y := word.Swap(mask, a, b)
			if x, y = word.Swap(mask, x, y); x != a || y != b {
				t.Errorf("twice Swap(%#x, %#x, %#x) = %#x, %#x", mask, a, b, x, y)
			}
		}
		a, b := cellFrom(mask), cellFrom(^mask)
		x, y := word.SwapCell(mask, a, b)
		if x, y = word.SwapCell(mask, x, y); x != a || y != b {
			t.Errorf("twice SwapCell(%#x) = %#x, %#x", mask, x, y)
		}
	}
}

func TestOfTwoWordsJustOneHolds(t *testing.T) {
	for _, a := range samples() {
		for _, b := range samples() {
			less, more, equal := word.Less(a, b), word.Less(b, a), word.Equal(a, b)
			if less|more|equal != all || less&more != none || less&equal != none || more&equal != none {
				t.Errorf("%#x, %#x: less %#x, more %#x, equal %#x", a, b, less, more, equal)
			}
		}
	}
}

func TestChapterExamples(t *testing.T) {
	if got := word.Less(3, 5); got != all {
		t.Errorf("Less(3, 5) = %#x", got)
	}
	if got := word.Pick(word.Less(3, 5), 7, 9); got != 7 {
		t.Errorf("Pick(Less(3, 5), 7, 9) = %d", got)
	}
	if got := word.Log(9); got != 3 {
		t.Errorf("Log(9) = %d", got)
	}
	if got := word.Round(9); got != 16 {
		t.Errorf("Round(9) = %d", got)
	}
}

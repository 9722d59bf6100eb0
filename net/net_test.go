package net_test

import (
	"math"
	"slices"
	"testing"

	"shellgame/api"
	"shellgame/net"
	"shellgame/word"
)

const (
	all  = math.MaxUint64
	high = 1 << 63
)

// sizes are all numbers that are right, written out.
func sizes() []int { return []int{1, 2, 4, 8, 16, 32, 64, 128, 256, 512, 1024} }

// wrongNumbers are the edges of an int, powers of two that are too great, and the neighbours of each power.
func wrongNumbers() []int {
	l := []int{
		0, -1, -2, -3, -4, -8, -1024, -2048, 3, 5, 6, 7, 9, 10, 12, 24, 48, 100, 768, 1000,
		math.MaxInt, math.MaxInt - 1, math.MinInt, math.MinInt + 1, math.MinInt + 2, math.MinInt + 1024,
	}
	for i := 2; i < 63; i++ {
		l = append(l, 1<<i+1, 1<<i+2, -(1 << i))
		if i > 2 {
			l = append(l, 1<<i-1, 1<<i-2)
		}
		if i > 10 {
			l = append(l, 1<<i, 1<<i+4, 1<<i+1024)
		}
	}
	return slices.DeleteFunc(l, func(n int) bool { return slices.Contains(sizes(), n) })
}

// pairsOf says N1 by halves and quotients: which block of j a place lies in, and which of k, odd or even.
func pairsOf(n int) []net.Pair {
	var l []net.Pair
	for k := 2; k <= n; k += k {
		for j := k / 2; j > 0; j = j / 2 {
			for i := 0; i < n; i++ {
				if (i/j)%2 == 0 {
					l = append(l, net.Pair{I: i, J: i + j, Up: (i/k)%2 == 0})
				}
			}
		}
	}
	return l
}

// sentThrough says N2 word for word, with compares.
func sentThrough(pairs []net.Pair, l []uint64) []uint64 {
	out := slices.Clone(l)
	for _, p := range pairs {
		lesser, greater := min(out[p.I], out[p.J]), max(out[p.I], out[p.J])
		if p.Up {
			out[p.I], out[p.J] = lesser, greater
		} else {
			out[p.I], out[p.J] = greater, lesser
		}
	}
	return out
}

// inOrder is what must be told: the same words, as often, the least one first.
func inOrder(l []uint64) []uint64 {
	out := slices.Clone(l)
	slices.Sort(out)
	return out
}

// mixed makes n words without a pattern.
func mixed(n int, seed uint64) []uint64 {
	l := make([]uint64, n)
	for i := range l {
		seed = seed*6364136223846793005 + 1442695040888963407
		l[i] = seed ^ seed>>29
	}
	return l
}

// made makes n words by a rule.
func made(n int, rule func(i int) uint64) []uint64 {
	l := make([]uint64, n)
	for i := range l {
		l[i] = rule(i)
	}
	return l
}

// lists are lists of n words of each kind.
func lists(n int) [][]uint64 {
	edges := []uint64{0, all, high, 1, high - 1, all - 1, high + 1, 2}
	l := [][]uint64{
		made(n, func(i int) uint64 { return uint64(i) }),
		made(n, func(i int) uint64 { return uint64(n - i) }),
		made(n, func(i int) uint64 { return all - uint64(i) }),
		made(n, func(i int) uint64 { return all - uint64(n) + uint64(i) }),
		made(n, func(i int) uint64 { return high - uint64(n/2) + uint64(i) }),
		made(n, func(i int) uint64 { return high + uint64(n/2) - uint64(i) }),
		made(n, func(i int) uint64 { return uint64(i) << 54 }),
		made(n, func(i int) uint64 { return uint64(n-i) << 54 }),
		made(n, func(i int) uint64 { return uint64(i*7) % 5 }),
		made(n, func(i int) uint64 { return uint64(min(i, n-i)) }),
		made(n, func(i int) uint64 { return uint64(max(i, n-i)) }),
	}
	for _, e := range edges {
		l = append(l, made(n, func(int) uint64 { return e }))
		for seed := range uint64(4) {
			among := mixed(n, seed+e)
			among[int(seed)*n/4] = e
			l = append(l, among)
		}
	}
	for seed := range uint64(8) {
		words := mixed(n, seed)
		l = append(l, words,
			made(n, func(i int) uint64 { return edges[words[i]>>32%uint64(len(edges))] }),
			made(n, func(i int) uint64 { return words[i] >> 32 % 4 }),
			made(n, func(i int) uint64 { return words[i] & high }),
			made(n, func(i int) uint64 { return words[i] >> 56 << 56 }))
	}
	return l
}

func checkSorted(t *testing.T, l []uint64) {
	t.Helper()
	was := slices.Clone(l)
	got, e := net.Sort(l)
	if e != api.OK || !slices.Equal(got, inOrder(was)) {
		t.Errorf("Sort of %d words, %#x ..: %#x .., %v", len(was), was[:min(8, len(was))], got[:min(8, len(got))], e)
	}
	if !slices.Equal(l, was) {
		t.Errorf("Sort of %d words changed what was handed in", len(was))
	}
}

func checkWrong(t *testing.T, l []uint64) {
	t.Helper()
	if got, e := net.Sort(l); len(got) != 0 || e != api.ErrArg {
		t.Errorf("Sort of %d words: %d words, %v", len(l), len(got), e)
	}
}

// N1.

func TestMostPlaces(t *testing.T) {
	if net.MaxSize != 1024 {
		t.Errorf("MaxSize = %d", net.MaxSize)
	}
}

func TestRightNumbers(t *testing.T) {
	for _, n := range sizes() {
		if !net.Right(n) {
			t.Errorf("Right(%d) = false", n)
		}
	}
	for n := -5000; n <= 5000; n++ {
		if got, want := net.Right(n), slices.Contains(sizes(), n); got != want {
			t.Errorf("Right(%d) = %v", n, got)
		}
	}
}

func TestWrongNumbersHaveNoNetwork(t *testing.T) {
	numbers := wrongNumbers()
	for n := -1100; n <= 2100; n++ {
		if !slices.Contains(sizes(), n) {
			numbers = append(numbers, n)
		}
	}
	for _, n := range numbers {
		if net.Right(n) {
			t.Errorf("Right(%d) = true", n)
		}
		if got := net.Pairs(n); len(got) != 0 {
			t.Errorf("Pairs(%d) are %d", n, len(got))
		}
		if got := net.Count(n); got != 0 {
			t.Errorf("Count(%d) = %d", n, got)
		}
	}
}

func TestPairsWrittenOut(t *testing.T) {
	const up, down = true, false
	for _, c := range []struct {
		n    int
		want []net.Pair
	}{
		{1, nil},
		{2, []net.Pair{{0, 1, up}}},
		{8, []net.Pair{
			{0, 1, up}, {2, 3, down}, {4, 5, up}, {6, 7, down},
			{0, 2, up}, {1, 3, up}, {4, 6, down}, {5, 7, down},
			{0, 1, up}, {2, 3, up}, {4, 5, down}, {6, 7, down},
			{0, 4, up}, {1, 5, up}, {2, 6, up}, {3, 7, up},
			{0, 2, up}, {1, 3, up}, {4, 6, up}, {5, 7, up},
			{0, 1, up}, {2, 3, up}, {4, 5, up}, {6, 7, up},
		}},
	} {
		if got := net.Pairs(c.n); !slices.Equal(got, c.want) {
			t.Errorf("Pairs(%d) = %v, want %v", c.n, got, c.want)
		}
	}
}

func TestPairsOfEachSize(t *testing.T) {
	for _, n := range sizes() {
		want := pairsOf(n)
		if got := net.Pairs(n); !slices.Equal(got, want) {
			t.Errorf("Pairs(%d) are not those of the rule", n)
		}
		if got := net.Count(n); got != len(want) {
			t.Errorf("Count(%d) = %d, want %d", n, got, len(want))
		}
	}
}

func TestCountsWrittenOut(t *testing.T) {
	counts := []int{0, 1, 6, 24, 80, 240, 672, 1792, 4608, 11520, 28160}
	for i, n := range sizes() {
		if got := net.Count(n); got != counts[i] {
			t.Errorf("Count(%d) = %d, want %d", n, got, counts[i])
		}
	}
}

func TestPairsAreNewEachTime(t *testing.T) {
	for _, n := range sizes() {
		first := net.Pairs(n)
		second := net.Pairs(n)
		clear(first)
		if want := pairsOf(n); !slices.Equal(second, want) || !slices.Equal(net.Pairs(n), want) {
			t.Errorf("Pairs(%d) hang on an earlier answer", n)
		}
	}
}

// N2.

func TestSortOfWrongNumbersOfWords(t *testing.T) {
	checkWrong(t, nil)
	checkWrong(t, []uint64{})
	for n := range 2100 {
		if !slices.Contains(sizes(), n) {
			checkWrong(t, made(n, func(i int) uint64 { return uint64(n - i) }))
		}
	}
	for _, n := range []int{2048, 4095, 4096, 4097, 65536, 1 << 20} {
		checkWrong(t, make([]uint64, n))
	}
}

func TestSortCountsWordsAndNotRoom(t *testing.T) {
	room := mixed(1024, 1)
	checkWrong(t, room[:0])
	checkWrong(t, room[:3])
	checkWrong(t, room[:1000])
	checkSorted(t, room[:4])
	checkSorted(t, room[5:6])
	checkSorted(t, mixed(1500, 2)[:1024])
}

func TestSortWrittenOut(t *testing.T) {
	for _, c := range []struct{ l, want []uint64 }{
		{[]uint64{0}, []uint64{0}},
		{[]uint64{high}, []uint64{high}},
		{[]uint64{all}, []uint64{all}},
		{[]uint64{5, 3}, []uint64{3, 5}},
		{[]uint64{3, 5}, []uint64{3, 5}},
		{[]uint64{3, 3}, []uint64{3, 3}},
		{[]uint64{all, 0}, []uint64{0, all}},
		{[]uint64{0, all}, []uint64{0, all}},
		{[]uint64{high, high - 1}, []uint64{high - 1, high}},
		{[]uint64{all, high, 0, 1}, []uint64{0, 1, high, all}},
		{[]uint64{high, all, high, 0}, []uint64{0, high, high, all}},
		{[]uint64{4, 3, 2, 1}, []uint64{1, 2, 3, 4}},
		{[]uint64{7, 1, 7, 0, all, 2, 0, high}, []uint64{0, 0, 1, 2, 7, 7, high, all}},
	} {
		if got, e := net.Sort(c.l); !slices.Equal(got, c.want) || e != api.OK {
			t.Errorf("Sort(%d) = %d, %v, want %d", c.l, got, e, c.want)
		}
	}
}

func TestSortIsWhatThePairsDo(t *testing.T) {
	for _, n := range sizes() {
		pairs := pairsOf(n)
		for _, l := range lists(n) {
			want := sentThrough(pairs, l)
			if got, e := net.Sort(l); !slices.Equal(got, want) || e != api.OK {
				t.Errorf("Sort of %d words is not what the pairs do (%v)", n, e)
			}
			if got := sentThrough(net.Pairs(n), l); !slices.Equal(got, want) {
				t.Errorf("Pairs(%d) do not sort", n)
			}
		}
	}
}

// N3.

func TestSortedIsInOrder(t *testing.T) {
	for _, n := range sizes() {
		for _, l := range lists(n) {
			checkSorted(t, l)
		}
	}
}

func TestEachOrderOfFourAndOfEight(t *testing.T) {
	var each func(l []uint64, from int)
	each = func(l []uint64, from int) {
		if from == len(l) {
			checkSorted(t, l)
			return
		}
		for i := from; i < len(l); i++ {
			l[from], l[i] = l[i], l[from]
			each(l, from+1)
			l[from], l[i] = l[i], l[from]
		}
	}
	each([]uint64{0, 1, high, all}, 0)
	each([]uint64{0, 1, 2, high - 1, high, high + 1, all - 1, all}, 0)
}

// A network that sorts each row of noughts and ones sorts all.
func TestEachRowOfNoughtsAndOnes(t *testing.T) {
	for _, n := range []int{1, 2, 4, 8, 16} {
		for row := range 1 << n {
			checkSorted(t, made(n, func(i int) uint64 { return uint64(row>>i) & 1 }))
		}
	}
}

func TestLongRowsOfNoughtsAndOnes(t *testing.T) {
	for _, n := range []int{32, 64, 128, 256, 512, 1024} {
		step := max(1, n/64)
		for at := 0; at < n; at += step {
			one := func(yes bool) uint64 {
				if yes {
					return 1
				}
				return 0
			}
			checkSorted(t, made(n, func(i int) uint64 { return one(i == at) }))
			checkSorted(t, made(n, func(i int) uint64 { return one(i != at) }))
			checkSorted(t, made(n, func(i int) uint64 { return one(i < at) }))
			checkSorted(t, made(n, func(i int) uint64 { return one(i >= at) }))
			words := mixed(n, uint64(at))
			checkSorted(t, made(n, func(i int) uint64 { return one(words[i]>>40%uint64(n) < uint64(at)) }))
		}
	}
}

func TestHowManyPairs(t *testing.T) {
	for _, n := range sizes() {
		log := word.Log(uint64(n))
		// Four times as many, for a quarter of 1 or 2 is no whole number.
		if got, want := 4*net.Count(n), n*log*(log+1); got != want {
			t.Errorf("four times Count(%d) = %d, want %d", n, got, want)
		}
		if got := len(net.Pairs(n)); got != net.Count(n) {
			t.Errorf("Pairs(%d) are %d, Count says %d", n, got, net.Count(n))
		}
	}
}

func TestPairsDoNotHangOnWords(t *testing.T) {
	for _, n := range sizes() {
		want := pairsOf(n)
		for _, l := range lists(n)[:12] {
			if _, e := net.Sort(l); e != api.OK {
				t.Errorf("Sort of %d words: %v", n, e)
			}
			checkWrong(t, slices.Concat(l, l, l))
			if got := net.Pairs(n); !slices.Equal(got, want) || net.Count(n) != len(want) {
				t.Errorf("Pairs(%d) are others behind a Sort", n)
			}
		}
	}
}

// P3, P4: what is handed out and in is nobody else's.

func TestSortLeavesWhatWasHandedIn(t *testing.T) {
	for _, n := range sizes() {
		for _, l := range lists(n) {
			room := slices.Concat([]uint64{all}, l, mixed(7, 3), []uint64{0})
			was := slices.Clone(room)
			got, e := net.Sort(room[1 : n+1])
			if !slices.Equal(room, was) || e != api.OK {
				t.Errorf("Sort of %d words changed what lies there (%v)", n, e)
			}
			clear(got)
			_ = append(got, 1, 2, 3)
			if !slices.Equal(room, was) {
				t.Errorf("Sort of %d words answers the list that was handed in", n)
			}
		}
	}
}

func TestSortedKeepsNothingOfTheList(t *testing.T) {
	for _, n := range sizes() {
		for _, l := range lists(n) {
			want := inOrder(l)
			first, _ := net.Sort(l)
			second, _ := net.Sort(l)
			clear(l)
			if !slices.Equal(first, want) {
				t.Errorf("a list of %d words that was told changed with that which was handed in", n)
			}
			clear(first)
			if !slices.Equal(second, want) {
				t.Errorf("two lists of %d words share their memory", n)
			}
		}
	}
}

func TestAWrongCallLeavesTheListAndNothingBehind(t *testing.T) {
	for range 2 {
		l := []uint64{3, 2, 1}
		checkWrong(t, l)
		if !slices.Equal(l, []uint64{3, 2, 1}) {
			t.Errorf("a wrong Sort made %d", l)
		}
		checkSorted(t, []uint64{2, 1})
		checkWrong(t, nil)
		checkSorted(t, []uint64{9})
		checkSorted(t, []uint64{9, 8, 7, 6})
	}
}

func TestChapterExample(t *testing.T) {
	want := []net.Pair{
		{I: 0, J: 1, Up: true}, {I: 2, J: 3, Up: false},
		{I: 0, J: 2, Up: true}, {I: 1, J: 3, Up: true},
		{I: 0, J: 1, Up: true}, {I: 2, J: 3, Up: true},
	}
	if got := net.Pairs(4); !slices.Equal(got, want) {
		t.Errorf("Pairs(4) = %v", got)
	}
}

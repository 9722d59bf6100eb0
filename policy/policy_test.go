package policy_test

import (
	"math"
	"slices"
	"sync"
	"testing"

	"shellgame/policy"
)

func checkKey(t *testing.T, rank uint64, expired bool, want uint64) {
	t.Helper()
	for _, cell := range []int{0, 7, -1, math.MaxInt, math.MinInt} {
		x := policy.Item{Cell: cell, Rank: rank, Expired: expired}
		if got := policy.Key(x); got != want {
			t.Errorf("Key(%+v) = %d, not %d", x, got, want)
		}
	}
}

func checkBlank(t *testing.T, cell int, want uint64) {
	t.Helper()
	if got := policy.Blank(cell); got != want {
		t.Errorf("Blank(%d) = %d, not %d", cell, got, want)
	}
}

func checkMany(t *testing.T, resident, expired, capacity, batch, want int) {
	t.Helper()
	if got := policy.Many(resident, expired, capacity, batch); got != want {
		t.Errorf("Many(%d, %d, %d, %d) = %d, not %d", resident, expired, capacity, batch, got, want)
	}
}

// checkVictims asks who they are, and that the list stays as it was.
func checkVictims(t *testing.T, l []policy.Item, capacity, batch int, want ...int) {
	t.Helper()
	was := slices.Clone(l)
	if got := policy.Victims(l, capacity, batch); !slices.Equal(got, want) {
		t.Errorf("Victims(%v, %d, %d) = %v, not %v", was, capacity, batch, got, want)
	}
	if !slices.Equal(l, was) {
		t.Errorf("Victims(%v, %d, %d) has left %v", was, capacity, batch, l)
	}
}

func checkAsTheTwin(t *testing.T, l []policy.Item, capacity, batch int) {
	t.Helper()
	checkVictims(t, l, capacity, batch, victimsOf(l, capacity, batch)...)
}

// inEachOrder hands on all orders of a list.
func inEachOrder(l []policy.Item, with func([]policy.Item)) {
	if len(l) == 0 {
		with(nil)
		return
	}
	for i, first := range l {
		rest := slices.Delete(slices.Clone(l), i, i+1)
		inEachOrder(rest, func(others []policy.Item) { with(append([]policy.Item{first}, others...)) })
	}
}

// The chapter's examples.
func TestExamples(t *testing.T) {
	checkVictims(t, []policy.Item{{Cell: 0, Rank: 5}, {Cell: 1, Rank: 3}, {Cell: 2, Rank: 9, Expired: true}}, 2, 2, 2)
	checkVictims(t, []policy.Item{{Cell: 0, Rank: 5}, {Cell: 1, Rank: 3}, {Cell: 2, Rank: 9}, {Cell: 3, Rank: 4}}, 2, 2, 1, 3)
}

// V1.

func TestKey(t *testing.T) {
	for _, x := range []struct{ rank, expired, lasting uint64 }{
		{0, 0, 4611686018427387904},
		{1, 1, 4611686018427387905},
		{5, 5, 4611686018427387909},
		{1<<32 + 7, 4294967303, 4611686022722355207},
		{1<<61 + 1, 2305843009213693953, 6917529027641081857},
		{1<<62 - 1, 4611686018427387903, 9223372036854775807},
		{1 << 62, 0, 4611686018427387904},
		{1<<62 + 1, 1, 4611686018427387905},
		{1<<63 - 1, 4611686018427387903, 9223372036854775807},
		{1 << 63, 0, 4611686018427387904},
		{1<<63 + 6, 6, 4611686018427387910},
		{3 << 62, 0, 4611686018427387904},
		{3<<62 + 7, 7, 4611686018427387911},
		{greatest - 1, 4611686018427387902, 9223372036854775806},
		{greatest, 4611686018427387903, 9223372036854775807},
	} {
		checkKey(t, x.rank, true, x.expired)
		checkKey(t, x.rank, false, x.lasting)
	}
}

func TestKeyOfEachRank(t *testing.T) {
	l := ranks()
	by := chance(1)
	for range 2000 {
		l = append(l, by.word())
	}
	for _, rank := range l {
		for _, expired := range []bool{true, false} {
			checkKey(t, rank, expired, keyOf(policy.Item{Rank: rank, Expired: expired}))
		}
	}
}

func TestBlank(t *testing.T) {
	for _, x := range []struct {
		cell int
		want uint64
	}{
		{0, 9223372036854775808},
		{1, 9223372036854775809},
		{7, 9223372036854775815},
		{79, 9223372036854775887},
		{1<<31 - 2, 9223372039002259454},
		{1<<31 - 1, 9223372039002259455},
		{1 << 31, 9223372036854775808},
		{1<<31 + 3, 9223372036854775811},
		{1 << 32, 9223372036854775808},
		{-1, 9223372039002259455},
		{-2, 9223372039002259454},
		{1 - 1<<31, 9223372036854775809},
		{-1 << 31, 9223372036854775808},
		{-1<<31 - 1, 9223372039002259455},
		{math.MaxInt - 1, 9223372039002259454},
		{math.MaxInt, 9223372039002259455},
		{math.MinInt, 9223372036854775808},
		{math.MinInt + 1, 9223372036854775809},
	} {
		checkBlank(t, x.cell, x.want)
	}
}

func TestBlankOfEachCell(t *testing.T) {
	l := ints()
	by := chance(2)
	for range 2000 {
		l = append(l, int(by.word()))
	}
	for _, cell := range l {
		checkBlank(t, cell, blankOf(cell))
	}
}

// V2.

func TestMany(t *testing.T) {
	for _, x := range [][5]int{
		// No more than the batch, however many are expired, or above the capacity.
		{9, 5, 9, 4, 4}, {9, 4, 9, 4, 4}, {9, 3, 9, 4, 3}, {9, 1, 9, 4, 1}, {9, 0, 9, 4, 0},
		{9, 0, 4, 4, 4}, {9, 0, 5, 4, 4}, {9, 0, 6, 4, 3}, {9, 0, 8, 4, 1}, {9, 0, 10, 4, 0}, {9, 0, 90, 4, 0},
		// The greater one, not both.
		{9, 2, 8, 4, 2}, {9, 1, 7, 4, 2}, {9, 2, 7, 4, 2}, {9, 3, 6, 9, 3}, {9, 3, 20, 4, 3},
		// None, if the batch has none.
		{9, 9, 0, 0, 0}, {9, 9, 0, -1, 0}, {9, 0, 0, math.MinInt, 0}, {0, 0, 0, 0, 0}, {0, 0, 0, 5, 0},
		// A capacity below 0 is still less.
		{0, 0, -3, 9, 3}, {2, 0, -3, 9, 5}, {2, 7, -3, 9, 7}, {2, 0, -3, 4, 4},
		// Fewer than none.
		{-3, 0, 0, 9, 0}, {0, -3, 0, 9, 0}, {-3, -2, 0, 9, 0}, {-3, -2, 5, 9, 0}, {9, -5, 4, 9, 5}, {-3, 2, 0, 9, 2}, {-3, 0, -5, 9, 2},
		// The least and the greatest.
		{math.MaxInt, 0, 0, math.MaxInt, math.MaxInt}, {math.MaxInt, 0, 1, math.MaxInt, math.MaxInt - 1}, {0, math.MaxInt, 0, math.MaxInt, math.MaxInt},
		{0, math.MaxInt, 0, 3, 3}, {math.MaxInt, 0, math.MaxInt, 9, 0}, {math.MinInt, 0, math.MinInt, 9, 0}, {math.MinInt, 0, 0, 9, 0},
		{0, math.MinInt, 3, 9, 0}, {5, math.MinInt, 3, 9, 2}, {0, 0, math.MaxInt, 9, 0}, {-1, 0, math.MinInt, math.MaxInt, math.MaxInt},
		// And round beyond them.
		{math.MaxInt, 0, -1, 9, 0}, {math.MaxInt, 2, -1, 9, 2}, {0, 0, math.MinInt, 9, 0}, {0, 1, math.MinInt, 9, 1},
		{math.MinInt, 0, 1, 9, 9}, {math.MinInt, 0, 1, math.MaxInt, math.MaxInt}, {-2, 0, math.MaxInt, math.MaxInt, math.MaxInt}, {-1, 0, math.MaxInt, 9, 0},
		{math.MaxInt, 0, math.MinInt, 9, 0}, {math.MinInt, 0, math.MaxInt, 9, 1},
	} {
		checkMany(t, x[0], x[1], x[2], x[3], x[4])
	}
}

func TestManyOfEachNumbers(t *testing.T) {
	l := fewInts()
	for _, resident := range l {
		for _, capacity := range l {
			for _, expired := range l {
				for _, batch := range l {
					if got, want := policy.Many(resident, expired, capacity, batch), manyOf(resident, expired, capacity, batch); got != want {
						t.Fatalf("Many(%d, %d, %d, %d) = %d, not %d", resident, expired, capacity, batch, got, want)
					}
				}
			}
		}
	}
	by := chance(3)
	all := ints()
	edge := func() int { return all[by.below(len(all))] }
	for range 20000 {
		resident, expired, capacity, batch := edge(), edge(), edge(), edge()
		checkMany(t, resident, expired, capacity, batch, manyOf(resident, expired, capacity, batch))
	}
}

// five are items of unlike keys, two of them expired: in the order 7, 2, 1, 4, 0.
func five() []policy.Item {
	return []policy.Item{
		{Cell: 4, Rank: 5}, {Cell: 1, Rank: 3}, {Cell: 2, Rank: 9, Expired: true}, {Cell: 0, Rank: 6}, {Cell: 7, Rank: 8, Expired: true},
	}
}

func TestVictims(t *testing.T) {
	for _, x := range []struct {
		capacity, batch int
		want            []int
	}{
		{5, 5, []int{7, 2}},
		{4, 5, []int{7, 2}},
		{3, 5, []int{7, 2}},
		{2, 5, []int{7, 2, 1}},
		{1, 5, []int{7, 2, 1, 4}},
		{0, 5, []int{7, 2, 1, 4, 0}},
		{5, 1, []int{7}},
		{0, 1, []int{7}},
		{0, 3, []int{7, 2, 1}},
		{64, 16, []int{7, 2}},
		{0, 16, []int{7, 2, 1, 4, 0}},
		{0, 0, nil},
		{0, -1, nil},
		{0, math.MinInt, nil},
		{-1, 5, []int{7, 2, 1, 4, 0}},
		{-1, 6, []int{7, 2, 1, 4, 0}},
		{-9, math.MaxInt, []int{7, 2, 1, 4, 0}},
		{-9, 4, []int{7, 2, 1, 4}},
		{math.MaxInt, math.MaxInt, []int{7, 2}},
		{math.MinInt + 6, math.MaxInt, []int{7, 2, 1, 4, 0}},
		{math.MinInt, math.MaxInt, []int{7, 2}}, // five less the least int goes round: it is below 0
	} {
		inEachOrder(five(), func(l []policy.Item) { checkVictims(t, l, x.capacity, x.batch, x.want...) })
	}
}

func TestVictimsOfNone(t *testing.T) {
	for _, l := range [][]policy.Item{nil, {}, five()[:0]} {
		for _, capacity := range fewInts() {
			for _, batch := range fewInts() {
				checkVictims(t, l, capacity, batch)
			}
		}
	}
}

func TestVictimsOfOne(t *testing.T) {
	for _, cell := range fewInts() {
		for _, rank := range []uint64{0, 5, 1 << 62, greatest} {
			lasting, expired := policy.Item{Cell: cell, Rank: rank}, policy.Item{Cell: cell, Rank: rank, Expired: true}
			checkVictims(t, []policy.Item{lasting}, 1, 1)
			checkVictims(t, []policy.Item{lasting}, 0, 1, cell)
			checkVictims(t, []policy.Item{lasting}, -1, 5, cell)
			checkVictims(t, []policy.Item{lasting}, 0, 0)
			checkVictims(t, []policy.Item{expired}, 1, 1, cell)
			checkVictims(t, []policy.Item{expired}, 9, 5, cell)
			checkVictims(t, []policy.Item{expired}, 1, 0)
			checkVictims(t, []policy.Item{expired}, 0, -1)
		}
	}
}

func TestVictimsThatAreAlike(t *testing.T) {
	for _, x := range []policy.Item{{}, {Cell: 3, Rank: 5}, {Cell: -3, Rank: greatest}, {Expired: true}, {Cell: 3, Rank: 5, Expired: true}} {
		for many := range 20 {
			l := slices.Repeat([]policy.Item{x}, many)
			for capacity := -1; capacity <= many+1; capacity++ {
				n := many
				if !x.Expired {
					n = min(many, max(0, many-capacity))
				}
				checkVictims(t, l, capacity, 64, slices.Repeat([]int{x.Cell}, n)...)
				checkVictims(t, l, capacity, 3, slices.Repeat([]int{x.Cell}, min(n, 3))...)
			}
		}
	}
}

func TestVictimsOfOneRank(t *testing.T) {
	cells := []int{math.MinInt, -1 << 32, -1, 0, 1, 1 << 31, math.MaxInt}
	for _, expired := range []bool{true, false} {
		var l []policy.Item
		for _, cell := range cells {
			l = append(l, policy.Item{Cell: cell, Rank: 5, Expired: expired})
		}
		inEachOrder(l, func(l []policy.Item) {
			for batch := range len(cells) + 1 {
				checkVictims(t, l, 0, batch, cells[:batch]...)
			}
		})
	}
}

// Those of one Cell cannot be told apart by what is answered, but by those that are left out ahead of another one.
func TestVictimsOfOneCell(t *testing.T) {
	l := []policy.Item{{Cell: 3, Rank: 5}, {Cell: 3, Rank: 6}, {Cell: 3, Rank: 7}, {Cell: 1, Rank: 6}, {Cell: 4, Rank: 6}, {Cell: 3, Rank: 5, Expired: true}}
	inEachOrder(l, func(l []policy.Item) {
		checkVictims(t, l, 0, 9, 3, 3, 1, 3, 4, 3)
		checkVictims(t, l, 0, 3, 3, 3, 1)
		checkVictims(t, l, 6, 9, 3)
	})
}

func TestVictimsOfAllExpiredAndOfNone(t *testing.T) {
	l := five()
	for i := range l {
		l[i].Expired = true
	}
	inEachOrder(l, func(l []policy.Item) {
		checkVictims(t, l, 9, 9, 1, 4, 0, 7, 2)
		checkVictims(t, l, 9, 2, 1, 4)
		checkVictims(t, l, 0, 4, 1, 4, 0, 7)
		for i := range l {
			l[i].Expired = false
		}
		checkVictims(t, l, 9, 9)
		checkVictims(t, l, 5, 9)
		checkVictims(t, l, 3, 9, 1, 4)
		checkVictims(t, l, 0, 4, 1, 4, 0, 7)
	})
}

// What a rank has from 2^62 on does not count.
func TestVictimsOfGreatRanks(t *testing.T) {
	l := []policy.Item{{Cell: 3, Rank: 7}, {Cell: 2, Rank: 1<<62 + 7}, {Cell: 1, Rank: 1<<63 + 7}, {Cell: 0, Rank: 3<<62 + 7}, {Cell: 9, Rank: greatest - 1<<62 + 1 + 6}}
	inEachOrder(l, func(l []policy.Item) {
		checkVictims(t, l, 0, 9, 9, 0, 1, 2, 3)
		checkVictims(t, l, 3, 9, 9, 0)
	})
	checkVictims(t, []policy.Item{{Cell: 1, Rank: 1 << 62}, {Cell: 2, Rank: 1<<62 - 1}, {Cell: 3, Rank: 0}}, 0, 3, 1, 3, 2)
	checkVictims(t, []policy.Item{{Cell: 1, Rank: 1 << 62}, {Cell: 2, Rank: 1<<62 - 1, Expired: true}, {Cell: 3, Rank: greatest, Expired: true}}, 0, 3, 2, 3, 1)
}

func TestVictimsOfAnyItems(t *testing.T) {
	by := chance(4)
	allRanks, allInts := ranks(), ints()
	for range 4000 {
		l := by.items(by.below(30), 1+by.below(12), 1+by.below(40))
		checkAsTheTwin(t, l, by.below(34)-2, by.below(20)-1)
		for i := range l {
			l[i].Rank = allRanks[by.below(len(allRanks))]
			l[i].Cell = allInts[by.below(len(allInts))]
		}
		checkAsTheTwin(t, l, by.below(34)-2, by.below(34)-1)
		checkAsTheTwin(t, l, allInts[by.below(len(allInts))], allInts[by.below(len(allInts))])
	}
}

// In whichever order they are handed in, the same ones go, in the same order.
func TestVictimsInAnyOrder(t *testing.T) {
	by := chance(5)
	for range 300 {
		l := by.items(1+by.below(40), 1+by.below(20), 1+by.below(80))
		capacity, batch := by.below(len(l)+2), by.below(20)
		want := policy.Victims(l, capacity, batch)
		for range 5 {
			by.shuffle(l)
			checkVictims(t, l, capacity, batch, want...)
		}
	}
}

// P1: lists of any length.
func TestVictimsOfMany(t *testing.T) {
	by := chance(6)
	l := by.items(100000, 1<<30, 1<<30)
	checkAsTheTwin(t, l, 0, 16)
	if got := policy.Victims(l, 0, len(l)); len(got) != len(l) {
		t.Error(len(got))
	}
}

// V3.

// All that are expired go ahead of all others: by their keys, and so as victims.
func TestExpiredGoFirst(t *testing.T) {
	for _, a := range ranks() {
		for _, b := range ranks() {
			expired, lasting := policy.Item{Cell: 9, Rank: a, Expired: true}, policy.Item{Cell: 3, Rank: b}
			if policy.Key(expired) >= policy.Key(lasting) {
				t.Fatal(expired, lasting)
			}
			checkVictims(t, []policy.Item{lasting, expired}, 1, 5, 9)
			checkVictims(t, []policy.Item{lasting, expired}, 0, 5, 9, 3)
		}
	}
	by := chance(7)
	for range 500 {
		l := by.items(1+by.below(40), 50, 1000)
		isExpired := map[int]bool{}
		expired := 0
		for i := range l {
			l[i].Cell = i
			if l[i].Expired {
				isExpired[i] = true
				expired++
			}
		}
		for i, cell := range policy.Victims(l, by.below(len(l)), by.below(20)) {
			if isExpired[cell] != (i < expired) {
				t.Fatalf("%v: %d goes at %d, and %d are expired", l, cell, i, expired)
			}
		}
	}
}

// No more than the batch entered since there were no more than the capacity: no more than that are left.
func TestNoMoreThanTheCapacityAreLeft(t *testing.T) {
	for capacity := range 65 {
		for batch := range 17 {
			for resident := range capacity + batch + 1 {
				for _, expired := range []int{0, 1, resident / 2, resident} {
					many := policy.Many(resident, expired, capacity, batch)
					if resident-many > capacity || many > batch || many < 0 {
						t.Fatalf("Many(%d, %d, %d, %d) = %d", resident, expired, capacity, batch, many)
					}
				}
			}
		}
	}
}

// The same of lists, batch after batch.
func TestNoMoreThanTheCapacityAreLeftOfBatches(t *testing.T) {
	by := chance(8)
	for range 60 {
		capacity, batch := 1+by.below(20), 1+by.below(16)
		in := map[int]policy.Item{}
		next := 0
		for range 40 {
			for range by.below(batch + 1) {
				in[next] = policy.Item{Cell: next, Rank: by.word()}
				next++
			}
			var l []policy.Item
			for _, x := range in {
				x.Expired = by.below(10) == 0
				l = append(l, x)
			}
			for _, cell := range policy.Victims(l, capacity, batch) {
				if _, there := in[cell]; !there {
					t.Fatalf("%d is told twice, or was never there", cell)
				}
				delete(in, cell)
			}
			if len(in) > capacity {
				t.Fatalf("%d are left of a capacity of %d", len(in), capacity)
			}
		}
	}
}

func TestKeysAreBelowBlanks(t *testing.T) {
	greatestKey, leastBlank := uint64(0), uint64(greatest)
	for _, rank := range ranks() {
		for _, expired := range []bool{true, false} {
			greatestKey = max(greatestKey, policy.Key(policy.Item{Rank: rank, Expired: expired}))
		}
	}
	for _, cell := range ints() {
		leastBlank = min(leastBlank, policy.Blank(cell))
	}
	if greatestKey >= leastBlank {
		t.Error(greatestKey, leastBlank)
	}
}

// Blanks of the cells that there can be are unlike each other, and in the cells' order.
func TestBlanksAreInOrder(t *testing.T) {
	for cell := range 2000 {
		if policy.Blank(cell) >= policy.Blank(cell+1) {
			t.Fatal(cell)
		}
	}
}

// The keys are what the victims are chosen by: nobody stays whose Key is below that of one who goes.
func TestVictimsAreThoseOfTheLeastKeys(t *testing.T) {
	by := chance(9)
	for range 500 {
		l := by.items(1+by.below(40), 30, 1000)
		for i := range l {
			l[i].Cell = i
		}
		cells := policy.Victims(l, by.below(len(l)), by.below(20))
		goes := make([]bool, len(l))
		last := uint64(0)
		for _, cell := range cells {
			if key := policy.Key(l[cell]); goes[cell] || key < last {
				t.Fatalf("%v: %v", l, cells)
			}
			goes[cell], last = true, policy.Key(l[cell])
		}
		for i, x := range l {
			if len(cells) > 0 && !goes[i] && policy.Key(x) < last {
				t.Fatalf("%v: %v, and %d stays", l, cells, i)
			}
		}
	}
}

// P3: what lies behind the list's length is neither read nor written.
func TestVictimsBehindTheLength(t *testing.T) {
	all := append(five(), policy.Item{Cell: 99, Expired: true}, policy.Item{Cell: 98})
	was := slices.Clone(all)
	for many := range all {
		checkAsTheTwin(t, all[:many], 0, 9)
		checkAsTheTwin(t, all[:many], many, 9)
		checkAsTheTwin(t, all[many:], 0, 9)
	}
	checkVictims(t, all[:5], 0, 9, 7, 2, 1, 4, 0)
	if !slices.Equal(all, was) {
		t.Error(all)
	}
}

// P3: a later change of the list is not seen in the answer, nor one of an answer in another one.
func TestVictimsAreNew(t *testing.T) {
	l := five()
	one, other := policy.Victims(l, 0, 5), policy.Victims(l, 0, 5)
	clear(l)
	for i := range one {
		one[i] = -5
	}
	one = append(one[:2], 6, 6)
	if !slices.Equal(other, []int{7, 2, 1, 4, 0}) || !slices.Equal(one, []int{-5, -5, 6, 6}) {
		t.Error(one, other)
	}
	checkVictims(t, five(), 0, 5, 7, 2, 1, 4, 0)
}

// P4: nothing is kept, and nothing hangs on who else asks.
func TestManyAskAtOnce(t *testing.T) {
	l := five()
	var all sync.WaitGroup
	for n := range 8 {
		all.Go(func() {
			by := chance(n)
			own := by.items(20+n, 9, 40)
			for range 300 {
				checkVictims(t, l, 1, 5, 7, 2, 1, 4)
				checkAsTheTwin(t, own, n, 10)
				checkKey(t, uint64(n), n%2 == 0, keyOf(policy.Item{Rank: uint64(n), Expired: n%2 == 0}))
				checkBlank(t, -n, blankOf(-n))
				checkMany(t, 9+n, n, 9, 5, manyOf(9+n, n, 9, 5))
			}
		})
	}
	all.Wait()
}

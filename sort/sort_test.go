package sort_test

import (
	"cmp"
	"math"
	"slices"
	"testing"

	"shellgame/api"
	"shellgame/mem"
	"shellgame/net"
	"shellgame/sort"
)

const (
	all  = math.MaxUint64
	high = 1 << 63
)

// sizes are all numbers of cells that are right, written out.
func sizes() []int { return []int{1, 2, 4, 8, 16, 32, 64, 128, 256, 512, 1024} }

// wrongNumbers are numbers of cells that are not right, the edges of an int among them.
func wrongNumbers() []int {
	l := []int{
		0, -1, -2, -4, -8, -1024, -2048, 2048, 4096, 8192, 1 << 32, 1<<32 + 1, 1 << 62,
		math.MaxInt, math.MaxInt - 1, math.MinInt, math.MinInt + 1, math.MinInt + 2,
	}
	for n := range 1100 {
		if !slices.Contains(sizes(), n) {
			l = append(l, n)
		}
	}
	return l
}

// cellFrom makes a cell whose twelve words differ from each other, and from those of every other n.
func cellFrom(n int) api.Cell {
	var c api.Cell
	for i := range c {
		c[i] = uint64(n*api.Words+i+1) * 0x9e3779b97f4a7c15
	}
	return c
}

// cellsBy makes a cell of each word: at key that word, elsewhere words that tell which cell it is.
func cellsBy(key int, words []uint64) []api.Cell {
	l := make([]api.Cell, len(words))
	for i, n := range words {
		l[i] = cellFrom(i)
		l[i][key] = n
	}
	return l
}

// wordsOf are the words at key.
func wordsOf(key int, cells []api.Cell) []uint64 {
	l := make([]uint64, len(cells))
	for i, c := range cells {
		l[i] = c[key]
	}
	return l
}

// ruled makes n words by a rule.
func ruled(n int, rule func(i int) uint64) []uint64 {
	l := make([]uint64, n)
	for i := range l {
		l[i] = rule(i)
	}
	return l
}

// mixed makes n words without a pattern.
func mixed(n int, seed uint64) []uint64 {
	return ruled(n, func(int) uint64 {
		seed = seed*6364136223846793005 + 1442695040888963407
		return seed ^ seed>>29
	})
}

// rows are rows of n words of each kind: no two the same, in order and not; some the same; all the same.
func rows(n int) [][]uint64 {
	edges := []uint64{0, all, high, 1, high - 1, all - 1, high + 1}
	words := mixed(n, 5)
	l := [][]uint64{
		words,
		ruled(n, func(i int) uint64 { return uint64(i) }),
		ruled(n, func(i int) uint64 { return uint64(n - i) }),
		ruled(n, func(i int) uint64 { return all - uint64(i) }),
		ruled(n, func(i int) uint64 { return high - uint64(n/2) + uint64(i) }),
		ruled(n, func(i int) uint64 { return high + uint64(n/2) - uint64(i) }),
		ruled(n, func(i int) uint64 { return uint64(n-i) << 53 }),
		ruled(n, func(i int) uint64 { return edges[words[i]>>32%uint64(len(edges))] }),
		ruled(n, func(i int) uint64 { return words[i] >> 32 % 3 }),
		ruled(n, func(i int) uint64 { return words[i] & high }),
		ruled(n, func(i int) uint64 { return uint64(i / 2) }),
		ruled(n, func(i int) uint64 { return uint64((n - i) / 2) }),
	}
	for _, e := range []uint64{0, high, all} {
		l = append(l, ruled(n, func(int) uint64 { return e }))
	}
	return l
}

func made(t *testing.T, sizes ...int) *mem.Memory {
	t.Helper()
	m, e := mem.New(sizes)
	if e != api.OK {
		t.Fatalf("New(%v): %v", sizes, e)
	}
	return m
}

func lay(m *mem.Memory, region int, cells []api.Cell) {
	for at, c := range cells {
		m.Write(region, at, c)
	}
}

func cellsOf(m *mem.Memory, region int) []api.Cell {
	l := make([]api.Cell, m.Size(region))
	for at := range l {
		l[at] = m.Read(region, at)
	}
	return l
}

// laid makes a memory of one region that holds just these cells.
func laid(t *testing.T, cells []api.Cell) *mem.Memory {
	t.Helper()
	m := made(t, len(cells))
	lay(m, 0, cells)
	return m
}

// ran is what a Run makes of cells that fill a region.
func ran(t *testing.T, cells []api.Cell, key int) []api.Cell {
	t.Helper()
	m := laid(t, cells)
	if e := sort.Run(m, 0, len(cells), key); e != api.OK || m.Fault() {
		t.Errorf("Run of %d cells by word %d: %v, fault %v", len(cells), key, e, m.Fault())
	}
	return cellsOf(m, 0)
}

// sentThrough says S1 word for word, with compares: cells of equal words are left alone.
func sentThrough(cells []api.Cell, key int) []api.Cell {
	out := slices.Clone(cells)
	for _, p := range net.Pairs(len(out)) {
		lesser, greater := p.I, p.J
		if !p.Up {
			lesser, greater = p.J, p.I
		}
		if out[greater][key] < out[lesser][key] {
			out[p.I], out[p.J] = out[p.J], out[p.I]
		}
	}
	return out
}

// looksOf says S2 word for word.
func looksOf(region, n int) []api.Event {
	var l []api.Event
	for _, p := range net.Pairs(n) {
		for _, write := range []bool{false, true} {
			for _, at := range []int{p.I, p.J} {
				l = append(l, api.Event{Region: region, At: at, Write: write})
			}
		}
	}
	return l
}

// keysOf are all keys, of great numbers of cells only some, so that the tests stay quick.
func keysOf(n int) []int {
	switch {
	case n > 256:
		return []int{11}
	case n > 64:
		return []int{0, 5, 11}
	}
	return []int{0, 1, 2, 3, 4, 5, 6, 7, 8, 9, 10, 11}
}

// everyCase goes over each size, some keys, and rows of words of each kind.
func everyCase(do func(n, key int, cells []api.Cell)) {
	for _, n := range sizes() {
		for _, key := range keysOf(n) {
			for _, words := range rows(n) {
				do(n, key, cellsBy(key, words))
			}
		}
	}
}

// checkRefused asks for ErrArg, and that nothing at all is to be seen of the call.
func checkRefused(t *testing.T, m *mem.Memory, region, n, key int) {
	t.Helper()
	many, fault := m.Many(), m.Fault()
	if e := sort.Run(m, region, n, key); e != api.ErrArg {
		t.Errorf("Run(m, %d, %d, %d) = %v", region, n, key, e)
	}
	if m.Many() != many || m.Fault() != fault {
		t.Errorf("Run(m, %d, %d, %d): %d events, fault %v", region, n, key, m.Many()-many, m.Fault())
	}
}

// S1.

func TestRunIsWhatThePairsDo(t *testing.T) {
	everyCase(func(n, key int, cells []api.Cell) {
		if got := ran(t, cells, key); !slices.Equal(got, sentThrough(cells, key)) {
			t.Errorf("Run of %d cells by word %d is not what the pairs do", n, key)
		}
	})
}

func TestRunWrittenOut(t *testing.T) {
	for _, c := range []struct{ words, want []uint64 }{
		{[]uint64{7}, []uint64{7}},
		{[]uint64{3, 5}, []uint64{3, 5}},
		{[]uint64{5, 3}, []uint64{3, 5}},
		{[]uint64{all, 0}, []uint64{0, all}},
		{[]uint64{high, high - 1}, []uint64{high - 1, high}},
		{[]uint64{all, high}, []uint64{high, all}},
		{[]uint64{0, high}, []uint64{0, high}},
		{[]uint64{all, high, 0, 1}, []uint64{0, 1, high, all}},
		{[]uint64{high, all, high, 0}, []uint64{0, high, high, all}},
		{[]uint64{7, 1, 7, 0, all, 2, 0, high}, []uint64{0, 0, 1, 2, 7, 7, high, all}},
	} {
		for key := range api.Words {
			if got := wordsOf(key, ran(t, cellsBy(key, c.words), key)); !slices.Equal(got, c.want) {
				t.Errorf("%d by word %d: %d", c.words, key, got)
			}
		}
	}
}

// Of four the pair of 2 and 3 is first not up, then up: cells of equal words stay in both.
func TestEqualWordsLeaveTheCellsAsTheyWere(t *testing.T) {
	for _, n := range []int{2, 4, 8} {
		for _, e := range []uint64{0, 1, high, all} {
			for key := range api.Words {
				cells := cellsBy(key, ruled(n, func(int) uint64 { return e }))
				if got := ran(t, cells, key); !slices.Equal(got, cells) {
					t.Errorf("%d cells whose word %d is %#x did not stay", n, key, e)
				}
			}
		}
	}
}

func TestWhereEqualWordsComeToStand(t *testing.T) {
	const key = 2
	for _, c := range []struct {
		words []uint64
		from  []int // where each cell of the answer stood
	}{
		{[]uint64{1, 1}, []int{0, 1}},
		{[]uint64{1, 1, 0, 0}, []int{2, 3, 0, 1}},
		{[]uint64{0, 0, 1, 1}, []int{0, 1, 2, 3}},
		{[]uint64{0, 1, 0, 1}, []int{0, 2, 3, 1}},
		{[]uint64{1, 0, 1, 1}, []int{1, 0, 2, 3}},
		{[]uint64{1, 1, 1, 0}, []int{3, 0, 2, 1}},
	} {
		cells := cellsBy(key, c.words)
		var want []api.Cell
		for _, at := range c.from {
			want = append(want, cells[at])
		}
		if got := ran(t, cells, key); !slices.Equal(got, want) {
			t.Errorf("%d: cells of equal words stand elsewhere", c.words)
		}
	}
}

// All other words are in an order that is not the key's, so that a sort by one of them is seen.
func TestNoOtherWordCounts(t *testing.T) {
	const n = 8
	for key := range api.Words {
		cells := make([]api.Cell, n)
		for i := range cells {
			for k := range cells[i] {
				cells[i][k] = uint64(n - i)
			}
			cells[i][key] = uint64(i)
		}
		if got := ran(t, cells, key); !slices.Equal(got, cells) {
			t.Errorf("by word %d: cells in order did not stay", key)
		}
	}
}

func TestWrongNumbersOfCells(t *testing.T) {
	m := made(t, 1024, mem.MaxCells)
	lay(m, 0, cellsBy(0, mixed(1024, 1)))
	lay(m, 1, cellsBy(0, mixed(4096, 2)))
	first, second := cellsOf(m, 0), cellsOf(m, 1)
	for _, n := range wrongNumbers() {
		for region := range 2 {
			checkRefused(t, m, region, n, 0)
		}
	}
	if !slices.Equal(cellsOf(m, 0), first) || !slices.Equal(cellsOf(m, 1), second) {
		t.Error("a wrong number of cells changed some")
	}
}

func TestRegionsThatThereAreNot(t *testing.T) {
	for _, regions := range []int{1, 2, mem.MaxRegions} {
		m := made(t, slices.Repeat([]int{4}, regions)...)
		for region := range regions {
			lay(m, region, cellsBy(0, []uint64{4, 3, 2, 1}))
		}
		for _, region := range []int{regions, regions + 1, 16, 17, 4096, math.MaxInt, -1, -2, -16, math.MinInt} {
			for _, n := range []int{1, 2, 4, 8, 1024, 0, -1, 3, 2048} {
				checkRefused(t, m, region, n, 0)
			}
		}
		for region := range regions {
			if got := wordsOf(0, cellsOf(m, region)); !slices.Equal(got, []uint64{4, 3, 2, 1}) {
				t.Errorf("of %d regions, region %d became %d", regions, region, got)
			}
		}
		if e := sort.Run(m, regions-1, 4, 0); e != api.OK {
			t.Errorf("Run of the last of %d regions: %v", regions, e)
		}
	}
}

func TestRegionsOfFewerCells(t *testing.T) {
	for _, n := range sizes()[1:] {
		for _, size := range []int{1, n / 2, n - 1} {
			// A great region beside it must not lend cells.
			m := made(t, size, mem.MaxCells)
			cells := cellsBy(3, mixed(size, uint64(n)))
			lay(m, 0, cells)
			checkRefused(t, m, 0, n, 3)
			if !slices.Equal(cellsOf(m, 0), cells) {
				t.Errorf("a Run of %d cells changed the %d that there are", n, size)
			}
		}
	}
}

func TestRegionsOfJustAsManyCellsAndOfMore(t *testing.T) {
	const key = 4
	for _, n := range sizes() {
		for _, size := range []int{n, n + 1, 2*n - 1, 2 * n, mem.MaxCells} {
			m := made(t, size)
			// The least words stand behind, so that a greater Run would bring them to the front.
			cells := cellsBy(key, ruled(size, func(i int) uint64 { return uint64(size - i) }))
			lay(m, 0, cells)
			from := m.Many()
			if e := sort.Run(m, 0, n, key); e != api.OK || m.Fault() || m.Many()-from != 4*net.Count(n) {
				t.Errorf("Run of %d of %d cells: %v, fault %v, %d events", n, size, e, m.Fault(), m.Many()-from)
			}
			got := cellsOf(m, 0)
			if !slices.Equal(got[:n], sentThrough(cells[:n], key)) || !slices.Equal(got[n:], cells[n:]) {
				t.Errorf("Run of %d of %d cells: not just those are in order", n, size)
			}
		}
	}
}

func TestOtherRegionsStay(t *testing.T) {
	const regions, n, key = 5, 8, 11
	cells := cellsBy(key, mixed(n, 9))
	for region := range regions {
		m := made(t, slices.Repeat([]int{n}, regions)...)
		for at := range regions {
			lay(m, at, cells)
		}
		if e := sort.Run(m, region, n, key); e != api.OK {
			t.Error(region, e)
		}
		for at := range regions {
			want := cells
			if at == region {
				want = sentThrough(cells, key)
			}
			if !slices.Equal(cellsOf(m, at), want) {
				t.Errorf("Run of region %d: region %d is not as it should be", region, at)
			}
		}
	}
}

func TestWrongKeys(t *testing.T) {
	for _, n := range []int{1, 2, 8} {
		cells := cellsBy(0, ruled(n, func(i int) uint64 { return uint64(n - i) }))
		m := laid(t, cells)
		for _, key := range []int{-1, -2, -12, 12, 13, 24, 256, 1 << 32, math.MaxInt, math.MinInt} {
			checkRefused(t, m, 0, n, key)
			checkRefused(t, m, 1, n, key)
			checkRefused(t, m, 0, 3, key)
		}
		if !slices.Equal(cellsOf(m, 0), cells) {
			t.Errorf("a wrong key changed some of %d cells", n)
		}
	}
}

func TestFirstAndLastKey(t *testing.T) {
	for _, key := range []int{0, 11} {
		cells := cellsBy(key, []uint64{4, 2, 3, 1})
		want := []api.Cell{cells[3], cells[1], cells[2], cells[0]}
		if got := ran(t, cells, key); !slices.Equal(got, want) {
			t.Errorf("by word %d: %d", key, wordsOf(key, got))
		}
	}
}

func TestOneCellIsNotLookedAt(t *testing.T) {
	for _, size := range []int{1, 2, 9} {
		for key := range api.Words {
			m := made(t, size)
			if e := sort.Run(m, 0, 1, key); e != api.OK || m.Many() != 0 || m.Fault() {
				t.Errorf("Run of 1 of %d cells: %v, %d events, fault %v", size, e, m.Many(), m.Fault())
			}
		}
	}
}

func TestAWrongCallLeavesNothingBehind(t *testing.T) {
	const n, key = 8, 7
	cells := cellsBy(key, mixed(n, 3))
	m := laid(t, cells)
	for _, c := range [][3]int{{0, 16, key}, {0, 3, key}, {0, 0, key}, {1, n, key}, {-1, n, key}, {0, n, 12}, {0, n, -1}} {
		checkRefused(t, m, c[0], c[1], c[2])
	}
	if !slices.Equal(cellsOf(m, 0), cells) {
		t.Error("a wrong call changed cells")
	}
	from := m.Many()
	if e := sort.Run(m, 0, n, key); e != api.OK || !slices.Equal(m.Since(from), looksOf(0, n)) {
		t.Errorf("a right call behind wrong ones: %v, other events", e)
	}
	if !slices.Equal(cellsOf(m, 0), sentThrough(cells, key)) {
		t.Error("a right call behind wrong ones does something else")
	}
}

func TestAFaultThatWasThereHindersNothing(t *testing.T) {
	m := laid(t, cellsBy(0, []uint64{2, 1}))
	m.Read(0, 2)
	checkRefused(t, m, 0, 4, 0)
	from := m.Many()
	if e := sort.Run(m, 0, 2, 0); e != api.OK || !m.Fault() || m.Many()-from != 4 {
		t.Errorf("Run: %v, fault %v, %d events", e, m.Fault(), m.Many()-from)
	}
	if got := wordsOf(0, cellsOf(m, 0)); !slices.Equal(got, []uint64{1, 2}) {
		t.Errorf("Run made %d", got)
	}
}

// S2.

func TestEventsOfEachSize(t *testing.T) {
	for _, n := range sizes() {
		for _, region := range []int{0, 1, 15} {
			got := sort.Events(region, n)
			if !slices.Equal(got, looksOf(region, n)) {
				t.Errorf("Events(%d, %d) are not those of the pairs", region, n)
			}
			if len(got) != 4*net.Count(n) {
				t.Errorf("Events(%d, %d) are %d", region, n, len(got))
			}
		}
	}
}

func TestEventsWrittenOut(t *testing.T) {
	read := func(at int) api.Event { return api.Event{Region: 3, At: at} }
	write := func(at int) api.Event { return api.Event{Region: 3, At: at, Write: true} }
	for _, c := range []struct {
		n    int
		want []api.Event
	}{
		{1, nil},
		{2, []api.Event{read(0), read(1), write(0), write(1)}},
		{4, []api.Event{
			read(0), read(1), write(0), write(1),
			read(2), read(3), write(2), write(3),
			read(0), read(2), write(0), write(2),
			read(1), read(3), write(1), write(3),
			read(0), read(1), write(0), write(1),
			read(2), read(3), write(2), write(3),
		}},
	} {
		if got := sort.Events(3, c.n); !slices.Equal(got, c.want) {
			t.Errorf("Events(3, %d) = %v", c.n, got)
		}
	}
}

func TestEventsOfWrongNumbers(t *testing.T) {
	for _, n := range wrongNumbers() {
		for _, region := range []int{0, 1, -1, 16} {
			if got := sort.Events(region, n); len(got) != 0 {
				t.Errorf("Events(%d, %d) are %d", region, n, len(got))
			}
		}
	}
}

// S2 asks whether n is right, and nothing of the region.
func TestEventsOfAnyRegion(t *testing.T) {
	for _, region := range []int{-1, 16, 4096, math.MaxInt, math.MinInt} {
		if got := sort.Events(region, 4); !slices.Equal(got, looksOf(region, 4)) {
			t.Errorf("Events(%d, 4) = %v", region, got)
		}
	}
}

func TestEventsAreNewEachTime(t *testing.T) {
	for _, n := range []int{2, 8, 64} {
		first, second := sort.Events(1, n), sort.Events(1, n)
		clear(first)
		_ = append(first, api.Event{Region: 9})
		if want := looksOf(1, n); !slices.Equal(second, want) || !slices.Equal(sort.Events(1, n), want) {
			t.Errorf("Events(1, %d) hang on an earlier answer", n)
		}
	}
}

// S3.

func TestCellsAreInOrderEachAsOftenAsItWas(t *testing.T) {
	byAll := func(a, b api.Cell) int { return slices.Compare(a[:], b[:]) }
	everyCase(func(n, key int, cells []api.Cell) {
		got := ran(t, cells, key)
		if !slices.IsSorted(wordsOf(key, got)) {
			t.Errorf("%d cells are not in order by word %d", n, key)
		}
		slices.SortFunc(got, byAll)
		slices.SortFunc(cells, byAll)
		if !slices.Equal(got, cells) {
			t.Errorf("%d cells by word %d are others than they were", n, key)
		}
	})
}

// A network that sorts each row of noughts and ones sorts all.
func TestEachRowOfNoughtsAndOnes(t *testing.T) {
	const key = 6
	for _, n := range []int{2, 4, 8} {
		for row := range 1 << n {
			cells := cellsBy(key, ruled(n, func(i int) uint64 { return uint64(row>>i) & 1 }))
			got := ran(t, cells, key)
			if !slices.IsSorted(wordsOf(key, got)) || !slices.Equal(got, sentThrough(cells, key)) {
				t.Errorf("%d by word %d: %d", wordsOf(key, cells), key, wordsOf(key, got))
			}
		}
	}
}

func TestCellsThatAreTheSame(t *testing.T) {
	for _, n := range sizes() {
		for _, c := range []api.Cell{{}, cellFrom(3), {0: all, 11: high}} {
			cells := slices.Repeat([]api.Cell{c}, n)
			if got := ran(t, cells, 0); !slices.Equal(got, cells) {
				t.Errorf("%d cells that are the same became others", n)
			}
		}
	}
}

func TestEventsDoNotHangOnTheCells(t *testing.T) {
	everyCase(func(n, key int, cells []api.Cell) {
		m := made(t, 3, n)
		lay(m, 1, cells)
		from := m.Many()
		for range 2 {
			e := sort.Run(m, 1, n, key)
			if e != api.OK || m.Fault() || !slices.Equal(m.Since(from), sort.Events(1, n)) {
				t.Errorf("Run of %d cells by word %d: %v, fault %v, other events than Events tells", n, key, e, m.Fault())
			}
			from = m.Many()
		}
	})
}

func TestEventsDoNotHangOnTheRegionsSize(t *testing.T) {
	for _, size := range []int{16, 17, 32, mem.MaxCells} {
		m := made(t, size)
		if e := sort.Run(m, 0, 16, 0); e != api.OK || !slices.Equal(m.Trace(), looksOf(0, 16)) {
			t.Errorf("Run of 16 of %d cells: %v, or other events", size, e)
		}
	}
}

func TestWhereACellStoodDoesNotCount(t *testing.T) {
	for _, n := range sizes() {
		for _, key := range []int{0, 5, 11} {
			cells := cellsBy(key, mixed(n, uint64(key)))
			want := slices.Clone(cells)
			slices.SortFunc(want, func(a, b api.Cell) int { return cmp.Compare(a[key], b[key]) })
			for turn := range 4 {
				at := n * turn / 4
				turned := slices.Concat(cells[at:], cells[:at])
				if turn == 3 {
					slices.Reverse(turned)
				}
				if got := ran(t, turned, key); !slices.Equal(got, want) {
					t.Errorf("%d cells by word %d, turned by %d, stand elsewhere", n, key, at)
				}
			}
		}
	}
}

func TestEachOrderOfFourCells(t *testing.T) {
	const key = 9
	want := cellsBy(key, []uint64{0, 1, high, all})
	var each func(l []api.Cell, from int)
	each = func(l []api.Cell, from int) {
		if from == len(l) {
			if got := ran(t, l, key); !slices.Equal(got, want) {
				t.Errorf("%d: %d", wordsOf(key, l), wordsOf(key, got))
			}
		}
		for i := from; i < len(l); i++ {
			l[from], l[i] = l[i], l[from]
			each(l, from+1)
			l[from], l[i] = l[i], l[from]
		}
	}
	each(slices.Clone(want), 0)
}

// P4: a Run hangs on its own memory alone.

func TestMemoriesBesideEachOther(t *testing.T) {
	a, b := laid(t, cellsBy(0, []uint64{4, 3, 2, 1})), laid(t, cellsBy(0, []uint64{8, 7, 6, 5}))
	from := b.Many()
	if e := sort.Run(a, 0, 4, 0); e != api.OK || b.Many() != from || b.Fault() {
		t.Errorf("Run of one memory: %v, %d events of the other", e, b.Many()-from)
	}
	if got := wordsOf(0, cellsOf(b, 0)); !slices.Equal(got, []uint64{8, 7, 6, 5}) {
		t.Errorf("Run of one memory made %d of the other", got)
	}
}

func TestOneRunBehindAnother(t *testing.T) {
	const n = 16
	cells := cellsBy(0, mixed(n, 1))
	m := laid(t, cells)
	want := cells
	for _, key := range []int{0, 11, 5, 0, 0, 3} {
		want = sentThrough(want, key)
		if e := sort.Run(m, 0, n, key); e != api.OK || !slices.Equal(cellsOf(m, 0), want) {
			t.Errorf("Run by word %d behind others: %v, or other cells", key, e)
		}
	}
}

func TestChapterExample(t *testing.T) {
	m := laid(t, []api.Cell{{5}, {3}})
	from := m.Many()
	if e := sort.Run(m, 0, 2, 0); e != api.OK || m.Many()-from != 4 {
		t.Errorf("Run: %v, %d events", e, m.Many()-from)
	}
	if got := cellsOf(m, 0); !slices.Equal(got, []api.Cell{{3}, {5}}) {
		t.Errorf("Run made %v", got)
	}
}

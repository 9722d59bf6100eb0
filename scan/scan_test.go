package scan_test

import (
	"math"
	"slices"
	"testing"

	"shellgame/api"
	"shellgame/mem"
	"shellgame/scan"
)

const (
	all  = math.MaxUint64
	none = 0
	high = 1 << 63
)

// sizes are numbers of cells that a region may have, both edges among them.
func sizes() []int { return []int{1, 2, 3, 4, 5, 8, 17, 64, 255, 256, 257, mem.MaxCells} }

// few are those of which every place can be tried.
func few() []int { return []int{1, 2, 3, 4, 5, 8, 17} }

// edgePlaces are places of a region of that size, and those behind it that could be taken for one of its own.
func edgePlaces(size int) []uint64 {
	n := uint64(size)
	return []uint64{0, n / 2, n - 1, n, n + 1, 2 * n, mem.MaxCells, 1 << 16, 1 << 31, 1 << 32, 1<<32 + n - 1, 1 << 40, high - 1, high, high + n - 1, all - n, all - 1, all}
}

// wrongKeys are words that no cell has.
func wrongKeys() []int {
	return []int{-1, 12, -2, -11, -12, 13, 16, 23, 24, 128, 255, 256, 256 + 3, 1 << 32, 1<<32 + 5, math.MaxInt, math.MinInt, math.MinInt + 11}
}

// wrongRegions are regions that a memory of so many does not have.
func wrongRegions(regions int) []int {
	return []int{-1, -2, -16, math.MinInt, regions, regions + 1, 16, 17, 256, 1 << 32, math.MaxInt}
}

// edgeWords are words that a look for one of them could take for another.
func edgeWords() []uint64 {
	return []uint64{0, 1, 2, 1 << 31, 1 << 32, high - 1, high, high + 1, all - 1, all}
}

// cellFrom makes a cell whose twelve words differ from each other, from those of every other n, and from 0.
func cellFrom(n int) api.Cell {
	var c api.Cell
	for i := range c {
		c[i] = uint64(n*api.Words+i+1) * 0x9e3779b97f4a7c15
	}
	return c
}

// other is a cell that numbered never makes.
func other() api.Cell { return cellFrom(1 << 20) }

// numbered makes cells no two of which have a word in common.
func numbered(n int) []api.Cell {
	l := make([]api.Cell, n)
	for i := range l {
		l[i] = cellFrom(i)
	}
	return l
}

// cellsBy makes a cell of each word: at key that word, elsewhere words that tell which cell it is.
func cellsBy(key int, words ...uint64) []api.Cell {
	l := numbered(len(words))
	for i, n := range words {
		l[i][key] = n
	}
	return l
}

func made(t *testing.T, sizes ...int) *mem.Memory {
	t.Helper()
	m, e := mem.New(sizes)
	if e != api.OK {
		t.Fatalf("New(%v): %v", sizes, e)
	}
	return m
}

func lay(m *mem.Memory, region int, cells []api.Cell) {
	for at, c := range cells {
		m.Write(region, at, c)
	}
}

// laid makes a memory of one region that holds just these cells.
func laid(t *testing.T, cells []api.Cell) *mem.Memory {
	t.Helper()
	m := made(t, len(cells))
	lay(m, 0, cells)
	return m
}

// cellsOf reads a region's cells one by one, not by a scan.
func cellsOf(m *mem.Memory, region int) []api.Cell {
	l := make([]api.Cell, m.Size(region))
	for at := range l {
		l[at] = m.Read(region, at)
	}
	return l
}

// readLooks and writeLooks say C1 once more: each cell in order, read; or read and then written.
func readLooks(region, n int) []api.Event {
	l := []api.Event{}
	for at := 0; at < n; at++ {
		l = append(l, api.Event{Region: region, At: at, Write: false})
	}
	return l
}

func writeLooks(region, n int) []api.Event {
	l := []api.Event{}
	for at := 0; at < n; at++ {
		l = append(l, api.Event{Region: region, At: at, Write: false}, api.Event{Region: region, At: at, Write: true})
	}
	return l
}

// checkLooks asks that a call made just these events, and no fault.
func checkLooks(t *testing.T, m *mem.Memory, what string, want []api.Event, call func()) {
	t.Helper()
	from, fault := m.Many(), m.Fault()
	call()
	if got := m.Since(from); !slices.Equal(got, want) {
		t.Errorf("%s: %d events, %d are meant, or others", what, len(got), len(want))
	}
	if m.Fault() != fault {
		t.Errorf("%s: fault %v", what, m.Fault())
	}
}

// foundIn says C2 with branches.
func foundIn(cells []api.Cell, key int, n uint64) (at uint64, c api.Cell, found uint64, many int) {
	if key < 0 || key > 11 {
		return 0, api.Cell{}, none, 0
	}
	for i := len(cells) - 1; i >= 0; i-- {
		if cells[i][key] == n {
			at, c, found = uint64(i), cells[i], all
			many++
		}
	}
	return at, c, found, many
}

func checkFind(t *testing.T, m *mem.Memory, region, key int, n uint64, at uint64, c api.Cell, found uint64) {
	t.Helper()
	checkLooks(t, m, "Find", readLooks(region, m.Size(region)), func() {
		gotAt, gotCell, gotFound := scan.Find(m, region, key, n)
		if gotAt != at || gotCell != c || gotFound != found {
			t.Errorf("Find(m, %d, %d, %#x) = %d, %#x, %#x, want %d, %#x, %#x", region, key, n, gotAt, gotCell, gotFound, at, c, found)
		}
	})
}

func checkCount(t *testing.T, m *mem.Memory, region, key int, n uint64, want int) {
	t.Helper()
	checkLooks(t, m, "Count", readLooks(region, m.Size(region)), func() {
		if got := scan.Count(m, region, key, n); got != want {
			t.Errorf("Count(m, %d, %d, %#x) = %d, want %d", region, key, n, got, want)
		}
	})
}

// checkSearch asks Find and Count what the cells say, and that they stay.
func checkSearch(t *testing.T, cells []api.Cell, key int, n uint64) {
	t.Helper()
	m := made(t, 2, len(cells))
	lay(m, 1, cells)
	at, c, found, many := foundIn(cells, key, n)
	checkFind(t, m, 1, key, n, at, c, found)
	checkCount(t, m, 1, key, n, many)
	if !slices.Equal(cellsOf(m, 1), cells) {
		t.Errorf("looking for %#x as word %d changed cells", n, key)
	}
}

// C1: Get.

func TestGetOfEachPlace(t *testing.T) {
	for _, size := range few() {
		cells := numbered(size)
		m := laid(t, cells)
		for at := range size {
			checkLooks(t, m, "Get", readLooks(0, size), func() {
				if got := scan.Get(m, 0, uint64(at)); got != cells[at] {
					t.Errorf("Get(m, 0, %d) of %d cells = %#x", at, size, got)
				}
			})
		}
		if !slices.Equal(cellsOf(m, 0), cells) {
			t.Errorf("Get changed some of %d cells", size)
		}
	}
}

func TestGetAtTheEdges(t *testing.T) {
	for _, size := range sizes() {
		cells := numbered(size)
		m := laid(t, cells)
		for _, at := range edgePlaces(size) {
			want := api.Cell{}
			if at < uint64(size) {
				want = cells[at]
			}
			checkLooks(t, m, "Get", readLooks(0, size), func() {
				if got := scan.Get(m, 0, at); got != want {
					t.Errorf("Get(m, 0, %#x) of %d cells = %#x", at, size, got)
				}
			})
		}
		if m.Fault() {
			t.Errorf("a Get of %d cells is a fault", size)
		}
	}
}

func TestGetWrittenOut(t *testing.T) {
	a, b := api.Cell{7, 11: 8}, api.Cell{all, high, 11: all}
	m := laid(t, []api.Cell{a, b, {}})
	for _, c := range []struct {
		at   uint64
		want api.Cell
	}{{0, a}, {1, b}, {2, api.Cell{}}, {3, api.Cell{}}, {high, api.Cell{}}, {high + 1, api.Cell{}}, {all, api.Cell{}}} {
		if got := scan.Get(m, 0, c.at); got != c.want {
			t.Errorf("Get(m, 0, %#x) = %#x", c.at, got)
		}
	}
}

func TestGetOfEachRegion(t *testing.T) {
	m := made(t, 3, 1, 5, 2)
	for region := range 4 {
		lay(m, region, numbered(100 + region)[100+region-m.Size(region):])
	}
	for region := range 4 {
		cells := cellsOf(m, region)
		for at, want := range cells {
			checkLooks(t, m, "Get", readLooks(region, len(cells)), func() {
				if got := scan.Get(m, region, uint64(at)); got != want {
					t.Errorf("Get(m, %d, %d) = %#x", region, at, got)
				}
			})
		}
		if got := scan.Get(m, region, uint64(len(cells))); got != (api.Cell{}) {
			t.Errorf("Get behind region %d = %#x", region, got)
		}
	}
}

// C1: Put.

func TestPutAtEachPlace(t *testing.T) {
	for _, size := range few() {
		for at := range size {
			for _, mask := range []uint64{all, none} {
				cells := numbered(size)
				m := laid(t, cells)
				checkLooks(t, m, "Put", writeLooks(0, size), func() { scan.Put(m, 0, uint64(at), other(), mask) })
				if mask == all {
					cells[at] = other()
				}
				if !slices.Equal(cellsOf(m, 0), cells) {
					t.Errorf("Put at %d of %d cells, mask %#x: not as it should be", at, size, mask)
				}
			}
		}
	}
}

func TestPutAtTheEdges(t *testing.T) {
	for _, size := range sizes() {
		cells := numbered(size)
		m := laid(t, cells)
		for i, at := range edgePlaces(size) {
			for _, mask := range []uint64{none, all} {
				c := cellFrom(1<<20 + i)
				checkLooks(t, m, "Put", writeLooks(0, size), func() { scan.Put(m, 0, at, c, mask) })
				if mask == all && at < uint64(size) {
					cells[at] = c
				}
				if !slices.Equal(cellsOf(m, 0), cells) {
					t.Errorf("Put at %#x of %d cells, mask %#x: not as it should be", at, size, mask)
				}
			}
		}
		if m.Fault() {
			t.Errorf("a Put of %d cells is a fault", size)
		}
	}
}

func TestPutWrittenOut(t *testing.T) {
	a, b, c := api.Cell{7, 11: 8}, api.Cell{all, high, 11: all}, api.Cell{3, 4, 5}
	for _, w := range []struct {
		at, mask uint64
		want     []api.Cell
	}{
		{0, all, []api.Cell{c, b, {}}},
		{1, all, []api.Cell{a, c, {}}},
		{2, all, []api.Cell{a, b, c}},
		{3, all, []api.Cell{a, b, {}}},
		{high, all, []api.Cell{a, b, {}}},
		{all, all, []api.Cell{a, b, {}}},
		{0, none, []api.Cell{a, b, {}}},
		{2, none, []api.Cell{a, b, {}}},
		{all, none, []api.Cell{a, b, {}}},
	} {
		m := laid(t, []api.Cell{a, b, {}})
		scan.Put(m, 0, w.at, c, w.mask)
		if got := cellsOf(m, 0); !slices.Equal(got, w.want) {
			t.Errorf("Put at %#x, mask %#x: %v", w.at, w.mask, got)
		}
	}
}

// Which words a cell had, or gets, must not count: noughts are put, and put over, as all others are.
func TestPutOfEachKindOfCell(t *testing.T) {
	var full api.Cell
	for i := range full {
		full[i] = all
	}
	kinds := []api.Cell{{}, full, cellFrom(3), {0: 1}, {11: 1}, {11: high}, {0: all, 5: high}}
	for _, old := range kinds {
		for _, c := range kinds {
			m := laid(t, []api.Cell{old, old, old})
			scan.Put(m, 0, 1, c, none)
			if got := cellsOf(m, 0); !slices.Equal(got, []api.Cell{old, old, old}) {
				t.Errorf("%#x over %#x, mask 0: %#x", c, old, got)
			}
			scan.Put(m, 0, 1, c, all)
			if got := cellsOf(m, 0); !slices.Equal(got, []api.Cell{old, c, old}) {
				t.Errorf("%#x over %#x: %#x", c, old, got)
			}
		}
	}
}

func TestPutLeavesOtherRegions(t *testing.T) {
	const regions, size = 5, 4
	for region := range regions {
		for at := range size {
			m := made(t, slices.Repeat([]int{size}, regions)...)
			for r := range regions {
				lay(m, r, numbered(size))
			}
			checkLooks(t, m, "Put", writeLooks(region, size), func() { scan.Put(m, region, uint64(at), other(), all) })
			for r := range regions {
				want := numbered(size)
				if r == region {
					want[at] = other()
				}
				if !slices.Equal(cellsOf(m, r), want) {
					t.Errorf("Put at %d of region %d: region %d is not as it should be", at, region, r)
				}
			}
		}
	}
}

// Of a mask that is neither, some answer: but all other cells stay, and nothing else is to be seen.
func TestPutByBitsThatAreNoMask(t *testing.T) {
	const size, at = 4, 2
	for _, mask := range []uint64{1, 2, 0xff, 1 << 32, high, high - 1, all - 1, 0x5555555555555555} {
		cells := numbered(size)
		m := laid(t, cells)
		checkLooks(t, m, "Put", writeLooks(0, size), func() { scan.Put(m, 0, at, other(), mask) })
		got := cellsOf(m, 0)
		got[at] = cells[at]
		if !slices.Equal(got, cells) {
			t.Errorf("Put by %#x changed another cell", mask)
		}
		checkLooks(t, m, "Put", writeLooks(0, size), func() { scan.Put(m, 0, size, other(), mask) })
	}
}

// C1, C2: a region that there is not has no cells: nothing is looked at, and it is no fault.
func TestRegionsThatThereAreNot(t *testing.T) {
	for _, regions := range []int{1, 2, mem.MaxRegions} {
		m := made(t, slices.Repeat([]int{3}, regions)...)
		for r := range regions {
			lay(m, r, numbered(3))
		}
		for _, region := range wrongRegions(regions) {
			for _, at := range edgePlaces(3) {
				checkLooks(t, m, "Get", nil, func() {
					if got := scan.Get(m, region, at); got != (api.Cell{}) {
						t.Errorf("Get(m, %d, %#x) = %#x", region, at, got)
					}
				})
				checkLooks(t, m, "Put", nil, func() { scan.Put(m, region, at, other(), all) })
				checkLooks(t, m, "Put", nil, func() { scan.Put(m, region, at, other(), none) })
			}
			for _, key := range []int{0, 5, 11, -1, 12} {
				for _, n := range []uint64{0, cellFrom(0)[0], cellFrom(1)[11], all} {
					checkFind(t, m, region, key, n, 0, api.Cell{}, none)
					checkCount(t, m, region, key, n, 0)
				}
			}
		}
		for r := range regions {
			if !slices.Equal(cellsOf(m, r), numbered(3)) {
				t.Errorf("of %d regions, region %d is changed", regions, r)
			}
		}
		if m.Fault() {
			t.Errorf("of %d regions: a region that there is not is a fault", regions)
		}
		if got := scan.Get(m, regions-1, 2); got != cellFrom(2) {
			t.Errorf("Get of the last of %d regions = %#x", regions, got)
		}
	}
}

// C2.

// Each word in no cell, in one, in several, in all: of four cells each choice of those that have it.
func TestEachChoiceOfCells(t *testing.T) {
	const size = 4
	for key := range api.Words {
		for _, n := range edgeWords() {
			for choice := range 1 << size {
				cells := numbered(size)
				for i := range cells {
					if choice>>i&1 == 1 {
						cells[i][key] = n
					}
				}
				checkSearch(t, cells, key, n)
			}
		}
	}
}

func TestFindAndCountWrittenOut(t *testing.T) {
	for _, c := range []struct {
		words []uint64
		n     uint64
		at    uint64
		found uint64
		many  int
	}{
		{[]uint64{7, 9, 9, 5}, 9, 1, all, 2},
		{[]uint64{7, 9, 9, 5}, 7, 0, all, 1},
		{[]uint64{7, 9, 9, 5}, 5, 3, all, 1},
		{[]uint64{7, 9, 9, 5}, 6, 0, none, 0},
		{[]uint64{7, 9, 9, 5}, 0, 0, none, 0},
		{[]uint64{4}, 4, 0, all, 1},
		{[]uint64{4}, 5, 0, none, 0},
		{[]uint64{0, 0, 0}, 0, 0, all, 3},
		{[]uint64{1, 0, 1, 0}, 0, 1, all, 2},
		{[]uint64{0, 0, high}, high, 2, all, 1},
		{[]uint64{0, high - 1, all}, high, 0, none, 0},
		{[]uint64{high, all, all - 1, all}, all, 1, all, 2},
		{[]uint64{all, all, all}, all, 0, all, 3},
		{[]uint64{1 << 32, 1, 0}, 0, 2, all, 1},
	} {
		for key := range api.Words {
			cells := cellsBy(key, c.words...)
			m := laid(t, cells)
			want := api.Cell{}
			if c.found == all {
				want = cells[c.at]
			}
			checkFind(t, m, 0, key, c.n, c.at, want, c.found)
			checkCount(t, m, 0, key, c.n, c.many)
		}
	}
}

func TestEachPairOfWords(t *testing.T) {
	for _, key := range []int{0, 6, 11} {
		for _, stands := range edgeWords() {
			for _, n := range edgeWords() {
				checkSearch(t, cellsBy(key, stands), key, n)
				checkSearch(t, cellsBy(key, 77, stands, 78, stands), key, n)
			}
		}
	}
}

// The words differ by one bit from that which is looked for, whichever bit it is.
func TestWordsThatDifferByOneBit(t *testing.T) {
	const key = 4
	for _, n := range []uint64{0, 0x0123456789abcdef, all} {
		for bit := range 64 {
			checkSearch(t, cellsBy(key, n^1<<bit, n^1<<bit), key, n)
			checkSearch(t, cellsBy(key, n^1<<bit, n), key, n)
		}
	}
}

func TestNoughtsAreFoundInCellsOfNoughts(t *testing.T) {
	for _, size := range sizes() {
		for _, key := range []int{0, 1, 5, 10, 11} {
			m := made(t, size)
			checkFind(t, m, 0, key, 0, 0, api.Cell{}, all)
			checkCount(t, m, 0, key, 0, size)
			checkFind(t, m, 0, key, 1, 0, api.Cell{}, none)
			checkCount(t, m, 0, key, 1, 0)
		}
	}
	m := laid(t, []api.Cell{cellFrom(0), cellFrom(1), {}, cellFrom(3), {}})
	checkFind(t, m, 0, 3, 0, 2, api.Cell{}, all)
	checkCount(t, m, 0, 3, 0, 2)
}

// All other words of all cells are the one that is looked for, so that a look at another word is seen.
func TestNoOtherWordCounts(t *testing.T) {
	for key := range api.Words {
		for _, n := range edgeWords() {
			cells := make([]api.Cell, 3)
			for i := range cells {
				for k := range cells[i] {
					cells[i][k] = n
				}
				cells[i][key] = n + 5
			}
			checkSearch(t, cells, key, n)
			cells[2][key] = n
			checkSearch(t, cells, key, n)
		}
	}
}

func TestFirstAndLastKey(t *testing.T) {
	a, b := api.Cell{0: 3, 11: 4}, api.Cell{0: 4, 11: 3}
	m := laid(t, []api.Cell{a, b})
	checkFind(t, m, 0, 0, 3, 0, a, all)
	checkFind(t, m, 0, 0, 4, 1, b, all)
	checkFind(t, m, 0, 11, 3, 1, b, all)
	checkFind(t, m, 0, 11, 4, 0, a, all)
	checkFind(t, m, 0, -1, 3, 0, api.Cell{}, none)
	checkFind(t, m, 0, 12, 4, 0, api.Cell{}, none)
}

// Behind a wrong key nothing is found, 0 in cells of noughts neither, though all cells are read.
func TestWrongKeys(t *testing.T) {
	for _, cells := range [][]api.Cell{numbered(1), numbered(4), make([]api.Cell, 1), make([]api.Cell, 5)} {
		m := laid(t, cells)
		for _, key := range wrongKeys() {
			for _, n := range append(edgeWords(), cells[0][:]...) {
				checkFind(t, m, 0, key, n, 0, api.Cell{}, none)
				checkCount(t, m, 0, key, n, 0)
			}
		}
		if m.Fault() || !slices.Equal(cellsOf(m, 0), cells) {
			t.Errorf("a wrong key changed some of %d cells, or fault %v", len(cells), m.Fault())
		}
	}
}

func TestFirstAndLastCellOfEachSize(t *testing.T) {
	const key = 9
	for _, size := range sizes() {
		for _, at := range []int{0, size / 2, size - 1} {
			cells := numbered(size)
			cells[at][key] = 5
			checkSearch(t, cells, key, 5)
			cells[size-1][key] = 5
			checkSearch(t, cells, key, 5)
		}
		checkSearch(t, numbered(size), key, 5)
	}
}

func TestSearchOfEachRegion(t *testing.T) {
	const key = 2
	m := made(t, 2, 3, 4)
	for region := range 3 {
		lay(m, region, cellsBy(key, 1, 2, 3, 4)[:m.Size(region)])
	}
	for region := range 3 {
		cells := cellsOf(m, region)
		for n := range uint64(6) {
			at, c, found, many := foundIn(cells, key, n)
			checkFind(t, m, region, key, n, at, c, found)
			checkCount(t, m, region, key, n, many)
		}
	}
}

// C3.

func TestReadsAndWritesOfEachSize(t *testing.T) {
	for _, n := range sizes() {
		for _, region := range []int{0, 1, 15} {
			if got := scan.Reads(region, n); !slices.Equal(got, readLooks(region, n)) || len(got) != n {
				t.Errorf("Reads(%d, %d) are %d", region, n, len(got))
			}
			if got := scan.Writes(region, n); !slices.Equal(got, writeLooks(region, n)) || len(got) != 2*n {
				t.Errorf("Writes(%d, %d) are %d", region, n, len(got))
			}
		}
	}
}

func TestReadsAndWritesWrittenOut(t *testing.T) {
	read := func(at int) api.Event { return api.Event{Region: 3, At: at} }
	write := func(at int) api.Event { return api.Event{Region: 3, At: at, Write: true} }
	for _, c := range []struct {
		n             int
		reads, writes []api.Event
	}{
		{0, nil, nil},
		{1, []api.Event{read(0)}, []api.Event{read(0), write(0)}},
		{3, []api.Event{read(0), read(1), read(2)}, []api.Event{read(0), write(0), read(1), write(1), read(2), write(2)}},
	} {
		if got := scan.Reads(3, c.n); !slices.Equal(got, c.reads) {
			t.Errorf("Reads(3, %d) = %v", c.n, got)
		}
		if got := scan.Writes(3, c.n); !slices.Equal(got, c.writes) {
			t.Errorf("Writes(3, %d) = %v", c.n, got)
		}
	}
}

// It ends at the first wrong answer: that of the next number could be more than the machine holds.
func TestReadsAndWritesOfNoCells(t *testing.T) {
	for _, n := range []int{0, -1, -2, -16, -4096, -1 << 32, math.MinInt, math.MinInt + 1} {
		for _, region := range []int{0, 3, 15, -1, 16} {
			if got := scan.Reads(region, n); len(got) != 0 {
				t.Fatalf("Reads(%d, %d) = %v", region, n, got)
			}
			if got := scan.Writes(region, n); len(got) != 0 {
				t.Fatalf("Writes(%d, %d) = %v", region, n, got)
			}
		}
	}
}

// C3 asks nothing of the region, nor whether a memory can have so many cells.
func TestReadsAndWritesOfAnyRegionAndNumber(t *testing.T) {
	for _, region := range []int{-1, 16, 4096, math.MaxInt, math.MinInt} {
		for _, n := range []int{1, 4, mem.MaxCells + 1, 3 * mem.MaxCells} {
			if got := scan.Reads(region, n); !slices.Equal(got, readLooks(region, n)) {
				t.Errorf("Reads(%d, %d) are %d", region, n, len(got))
			}
			if got := scan.Writes(region, n); !slices.Equal(got, writeLooks(region, n)) {
				t.Errorf("Writes(%d, %d) are %d", region, n, len(got))
			}
		}
	}
}

func TestReadsAndWritesAreNewEachTime(t *testing.T) {
	for _, n := range []int{1, 5, 64} {
		for _, c := range []struct {
			told func(region, n int) []api.Event
			want []api.Event
		}{{scan.Reads, readLooks(1, n)}, {scan.Writes, writeLooks(1, n)}} {
			first, second := c.told(1, n), c.told(1, n)
			clear(first)
			_ = append(first, api.Event{Region: 9})
			if !slices.Equal(second, c.want) || !slices.Equal(c.told(1, n), c.want) {
				t.Errorf("events of %d cells hang on an earlier answer", n)
			}
		}
	}
}

func TestEventsAreThoseThatAreTold(t *testing.T) {
	for _, size := range sizes() {
		for _, region := range []int{0, 1, 2} {
			m := made(t, slices.Insert([]int{7, 9}, region, size)...)
			reads, writes := scan.Reads(region, size), scan.Writes(region, size)
			checkLooks(t, m, "Get", reads, func() { scan.Get(m, region, 0) })
			checkLooks(t, m, "Put", writes, func() { scan.Put(m, region, 0, other(), all) })
			checkLooks(t, m, "Find", reads, func() { scan.Find(m, region, 0, 0) })
			checkLooks(t, m, "Count", reads, func() { scan.Count(m, region, 0, 0) })
		}
	}
}

// C4.

func TestWhatIsPutIsGot(t *testing.T) {
	for _, size := range few() {
		cells := numbered(size)
		m := laid(t, cells)
		for at := range size {
			c := cellFrom(1<<20 + at)
			scan.Put(m, 0, uint64(at), c, all)
			cells[at] = c
			for i, want := range cells {
				if got := scan.Get(m, 0, uint64(i)); got != want {
					t.Errorf("of %d cells, behind a Put at %d: Get at %d = %#x", size, at, i, got)
				}
			}
			checkFind(t, m, 0, 7, c[7], uint64(at), c, all)
			checkCount(t, m, 0, 7, c[7], 1)
		}
	}
}

func TestWhatIsPutLastIsGot(t *testing.T) {
	m := made(t, 3)
	for i := range 6 {
		scan.Put(m, 0, 1, cellFrom(i), all)
		scan.Put(m, 0, 1, other(), none)
		scan.Put(m, 0, 3, other(), all)
		if got := scan.Get(m, 0, 1); got != cellFrom(i) {
			t.Errorf("Get behind Put %d = %#x", i, got)
		}
	}
	scan.Put(m, 0, 1, api.Cell{}, all)
	if got := cellsOf(m, 0); !slices.Equal(got, make([]api.Cell, 3)) {
		t.Errorf("noughts that were put: %#x", got)
	}
}

// kindsOfCells are regions of one size that hold what is looked for nowhere, first, last, often, everywhere.
func kindsOfCells(key, size int, n uint64) [][]api.Cell {
	last, first, everywhere := numbered(size), numbered(size), numbered(size)
	first[0][key], last[size-1][key] = n, n
	for i := range everywhere {
		everywhere[i][key] = n
	}
	return [][]api.Cell{make([]api.Cell, size), numbered(size), first, last, everywhere}
}

func TestEventsHangOnTheSizeAlone(t *testing.T) {
	for _, size := range few() {
		for _, key := range []int{0, 5, 11, -1, 12} {
			for _, n := range []uint64{0, 5, high, all} {
				for _, cells := range kindsOfCells(min(max(key, 0), 11), size, n) {
					m := made(t, 1, size)
					lay(m, 1, cells)
					checkLooks(t, m, "Find", readLooks(1, size), func() { scan.Find(m, 1, key, n) })
					checkLooks(t, m, "Count", readLooks(1, size), func() { scan.Count(m, 1, key, n) })
					for _, at := range edgePlaces(size) {
						checkLooks(t, m, "Get", readLooks(1, size), func() { scan.Get(m, 1, at) })
						checkLooks(t, m, "Put", writeLooks(1, size), func() { scan.Put(m, 1, at, other(), none) })
						checkLooks(t, m, "Put", writeLooks(1, size), func() { scan.Put(m, 1, at, cells[0], all) })
					}
				}
			}
		}
	}
}

// P3, P4: a scan hangs on its own memory alone, and keeps nothing that is handed in.

func TestMemoriesBesideEachOther(t *testing.T) {
	a, b := laid(t, numbered(4)), laid(t, numbered(4))
	from := b.Many()
	scan.Put(a, 0, 2, other(), all)
	scan.Get(a, 0, 2)
	scan.Find(a, 0, 0, other()[0])
	scan.Count(a, 0, 0, other()[0])
	if b.Many() != from || b.Fault() || !slices.Equal(cellsOf(b, 0), numbered(4)) {
		t.Error("scans of one memory are seen in the other")
	}
	if got := scan.Get(b, 0, 2); got != cellFrom(2) {
		t.Errorf("Get of the other memory = %#x", got)
	}
}

func TestCellsThatAreChangedLater(t *testing.T) {
	m := made(t, 2)
	c := cellFrom(1)
	scan.Put(m, 0, 1, c, all)
	c[0] = 99
	got := scan.Get(m, 0, 1)
	got[1] = 98
	_, found, _ := scan.Find(m, 0, 2, got[2])
	found[3] = 97
	if again := scan.Get(m, 0, 1); again != cellFrom(1) {
		t.Errorf("Get = %#x", again)
	}
}

func TestAFaultThatWasThereHindersNothing(t *testing.T) {
	m := laid(t, cellsBy(0, 7, 9))
	m.Read(0, 2)
	checkLooks(t, m, "Put", writeLooks(0, 2), func() { scan.Put(m, 0, 1, api.Cell{8}, all) })
	checkFind(t, m, 0, 0, 8, 1, api.Cell{8}, all)
	checkCount(t, m, 0, 0, 9, 0)
	checkLooks(t, m, "Get", readLooks(0, 2), func() {
		if got := scan.Get(m, 0, 1); got != (api.Cell{8}) {
			t.Errorf("Get = %#x", got)
		}
	})
	if !m.Fault() {
		t.Error("the fault is gone")
	}
}

func TestChapterExample(t *testing.T) {
	m := laid(t, []api.Cell{{7, 1: 10}, {9, 1: 11}, {9, 1: 12}})
	if got := scan.Get(m, 0, 1); got != (api.Cell{9, 1: 11}) {
		t.Errorf("Get(m, 0, 1) = %v", got)
	}
	if at, c, found := scan.Find(m, 0, 0, 9); at != 1 || c != (api.Cell{9, 1: 11}) || found != all {
		t.Errorf("Find(m, 0, 0, 9) = %d, %v, %#x", at, c, found)
	}
}

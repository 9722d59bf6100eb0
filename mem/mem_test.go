package mem_test

import (
	"fmt"
	"math"
	"slices"
	"testing"

	"shellgame/api"
	"shellgame/mem"
)

// look is one call of Read or Write, with the cell that a Write is handed.
type look struct {
	region, at int
	write      bool
	cell       api.Cell
}

// cellFrom makes a cell whose twelve words differ from each other, none of them 0.
func cellFrom(n int) api.Cell {
	var c api.Cell
	for i := range c {
		c[i] = uint64(n*api.Words+i+1) * 0x9e3779b97f4a7c15
	}
	return c
}

func sizesOf(many, size int) []int {
	return slices.Repeat([]int{size}, many)
}

func made(t *testing.T, sizes ...int) *mem.Memory {
	t.Helper()
	m, e := mem.New(sizes)
	if e != api.OK || m == nil {
		t.Fatalf("New(%v) = %v, %v", sizes, m, e)
	}
	return m
}

func do(m *mem.Memory, l look) api.Cell {
	if l.write {
		m.Write(l.region, l.at, l.cell)
		return api.Cell{}
	}
	return m.Read(l.region, l.at)
}

func reads(at ...int) []api.Event {
	l := []api.Event{}
	for _, n := range at {
		l = append(l, api.Event{At: n})
	}
	return l
}

func checkEvents(t *testing.T, what string, got, want []api.Event) {
	t.Helper()
	if !slices.Equal(got, want) {
		t.Errorf("%s = %v, want %v", what, got, want)
	}
}

func checkState(t *testing.T, m *mem.Memory, fault bool, want []api.Event) {
	t.Helper()
	if m.Fault() != fault {
		t.Errorf("Fault() = %v, want %v", m.Fault(), fault)
	}
	if m.Many() != len(want) {
		t.Errorf("Many() = %d, want %d", m.Many(), len(want))
	}
	checkEvents(t, "Trace()", m.Trace(), want)
}

func checkCell(t *testing.T, m *mem.Memory, region, at int, want api.Cell) {
	t.Helper()
	if got := m.Read(region, at); got != want {
		t.Errorf("Read(%d, %d) = %#x, want %#x", region, at, got, want)
	}
}

// missing are places where a memory of 2 and 3 cells has none.
func missing() [][2]int {
	return [][2]int{
		{0, 2}, {1, 3}, {0, -1}, {1, -1}, {0, math.MaxInt}, {1, math.MinInt},
		{2, 0}, {-1, 0}, {2, -1}, {-1, -1}, {mem.MaxRegions, 0},
		{math.MaxInt, 0}, {math.MinInt, 0}, {math.MinInt, math.MinInt}, {math.MaxInt, math.MaxInt},
	}
}

// M1.

func TestLimits(t *testing.T) {
	if mem.MaxRegions != 16 || mem.MaxCells != 4096 {
		t.Error(mem.MaxRegions, mem.MaxCells)
	}
}

func TestNewOfRightSizes(t *testing.T) {
	for _, sizes := range [][]int{
		{1}, {2}, {4095}, {4096}, {1, 4096}, {4096, 1}, {2, 3, 5},
		sizesOf(15, 2), sizesOf(16, 1), sizesOf(16, 4096),
	} {
		m := made(t, sizes...)
		checkState(t, m, false, nil)
		for region, size := range sizes {
			if got := m.Size(region); got != size {
				t.Errorf("New(%v): Size(%d) = %d", sizes, region, got)
			}
		}
	}
}

func TestNewOfWrongSizes(t *testing.T) {
	wrong := [][]int{nil, {}, sizesOf(3, 1)[:0], sizesOf(17, 1), sizesOf(100, 1), sizesOf(1<<20, 1), sizesOf(17, 0)}
	for _, size := range []int{0, -1, -4096, 4097, 8192, math.MinInt, math.MaxInt} {
		wrong = append(wrong, []int{size}, []int{size, 1}, []int{1, size}, []int{1, size, 1}, sizesOf(16, size))
		last := sizesOf(16, 1)
		last[15] = size
		wrong = append(wrong, last)
	}
	for _, sizes := range wrong {
		if m, e := mem.New(sizes); m != nil || e != api.ErrArg {
			t.Errorf("New of %d sizes, %v: %v, %v", len(sizes), sizes[:min(len(sizes), 17)], m, e)
		}
	}
}

func TestNewIsCellsOfNoughts(t *testing.T) {
	sizes := []int{1, 3, 4096}
	m := made(t, sizes...)
	for region, size := range sizes {
		for at := range size {
			checkCell(t, m, region, at, api.Cell{})
		}
	}
	if m.Fault() || m.Many() != 1+3+4096 {
		t.Errorf("fault %v, %d events", m.Fault(), m.Many())
	}
}

func TestSizeOfRegionsThatThereAreNot(t *testing.T) {
	for _, regions := range []int{1, 2, 16} {
		m := made(t, sizesOf(regions, 3)...)
		for _, region := range []int{regions, regions + 1, 16, 17, -1, -2, math.MinInt, math.MaxInt} {
			if got := m.Size(region); got != 0 {
				t.Errorf("of %d regions: Size(%d) = %d", regions, region, got)
			}
		}
		// Asking for a size is no look, not even a wrong one.
		checkState(t, m, false, nil)
	}
}

func TestSizeStaysWhateverIsDone(t *testing.T) {
	m := made(t, 2, 3)
	m.Write(0, 1, cellFrom(1))
	m.Write(0, 2, cellFrom(1))
	m.Write(2, 0, cellFrom(1))
	if m.Size(0) != 2 || m.Size(1) != 3 || m.Size(2) != 0 {
		t.Error(m.Size(0), m.Size(1), m.Size(2))
	}
}

// M2.

func TestReadIsOneEventMore(t *testing.T) {
	m := made(t, 2, 3)
	want := []api.Event{}
	for region, size := range []int{2, 3} {
		for at := range size {
			checkCell(t, m, region, at, api.Cell{})
			want = append(want, api.Event{Region: region, At: at})
			checkState(t, m, false, want)
		}
	}
}

func TestWriteIsOneEventMoreAndTheCell(t *testing.T) {
	sizes := []int{2, 3}
	m := made(t, sizes...)
	want := []api.Event{}
	for region, size := range sizes {
		for at := range size {
			m.Write(region, at, cellFrom(10*region+at))
			want = append(want, api.Event{Region: region, At: at, Write: true})
			checkState(t, m, false, want)
		}
	}
	for region, size := range sizes {
		for at := range size {
			checkCell(t, m, region, at, cellFrom(10*region+at))
		}
	}
}

func TestFirstAndLastCellOfTheGreatestMemory(t *testing.T) {
	m := made(t, sizesOf(mem.MaxRegions, mem.MaxCells)...)
	corners := [][2]int{{0, 0}, {0, 4095}, {15, 0}, {15, 4095}}
	want := []api.Event{}
	for i, c := range corners {
		m.Write(c[0], c[1], cellFrom(i))
		want = append(want, api.Event{Region: c[0], At: c[1], Write: true})
	}
	for i, c := range corners {
		checkCell(t, m, c[0], c[1], cellFrom(i))
		want = append(want, api.Event{Region: c[0], At: c[1]})
	}
	checkState(t, m, false, want)
	m.Read(0, 4096)
	checkState(t, m, true, want)
}

func TestReadOfNoCellIsAFault(t *testing.T) {
	for _, x := range missing() {
		m := made(t, 2, 3)
		checkCell(t, m, x[0], x[1], api.Cell{})
		checkState(t, m, true, nil)
	}
}

func TestWriteOfNoCellIsAFaultAndWritesNothing(t *testing.T) {
	for _, x := range missing() {
		m := made(t, 2, 3)
		m.Write(x[0], x[1], cellFrom(1))
		checkState(t, m, true, nil)
		checkCell(t, m, x[0], x[1], api.Cell{})
		for region, size := range []int{2, 3} {
			for at := range size {
				checkCell(t, m, region, at, api.Cell{})
			}
		}
	}
}

func TestNoCellIsNoughtsThoughOthersAreFull(t *testing.T) {
	m := made(t, 2, 3)
	for region, size := range []int{2, 3} {
		for at := range size {
			m.Write(region, at, cellFrom(at))
		}
	}
	for _, x := range missing() {
		checkCell(t, m, x[0], x[1], api.Cell{})
	}
}

func TestFaultStaysAndLooksGoOn(t *testing.T) {
	for _, wrong := range []look{{region: 0, at: 2}, {region: 5, at: 0, write: true, cell: cellFrom(9)}} {
		m := made(t, 2)
		m.Write(0, 0, cellFrom(1))
		want := []api.Event{{Write: true}}
		checkState(t, m, false, want)
		do(m, wrong)
		checkState(t, m, true, want)
		checkCell(t, m, 0, 0, cellFrom(1))
		m.Write(0, 1, cellFrom(2))
		checkCell(t, m, 0, 1, cellFrom(2))
		want = append(want, api.Event{}, api.Event{At: 1, Write: true}, api.Event{At: 1})
		checkState(t, m, true, want)
		do(m, wrong)
		checkState(t, m, true, want)
	}
}

// M3.

func TestSince(t *testing.T) {
	m := made(t, 5)
	all := []api.Event{}
	for many := range 6 {
		for _, from := range []int{math.MinInt, -many, -1, 0} {
			checkEvents(t, fmt.Sprintf("of %d: Since(%d)", many, from), m.Since(from), all)
		}
		for from := range many {
			checkEvents(t, fmt.Sprintf("of %d: Since(%d)", many, from), m.Since(from), all[from:])
		}
		for _, from := range []int{many, many + 1, many + 9, math.MaxInt} {
			checkEvents(t, fmt.Sprintf("of %d: Since(%d)", many, from), m.Since(from), nil)
		}
		write := many%2 == 1
		do(m, look{at: many, write: write})
		all = append(all, api.Event{At: many, Write: write})
	}
}

func TestTellingIsNoLook(t *testing.T) {
	m := made(t, 2)
	m.Read(0, 1)
	for range 3 {
		m.Size(0)
		m.Size(7)
		m.Since(-1)
		m.Since(9)
		checkState(t, m, false, reads(1))
	}
}

func TestTheSameLookTwiceIsTwoEvents(t *testing.T) {
	m := made(t, 2)
	m.Read(0, 1)
	m.Read(0, 1)
	m.Write(0, 1, api.Cell{})
	m.Write(0, 1, api.Cell{})
	checkState(t, m, false, []api.Event{{At: 1}, {At: 1}, {At: 1, Write: true}, {At: 1, Write: true}})
}

func TestManyEventsInOrder(t *testing.T) {
	const many = 100000
	m := made(t, 4096)
	for i := range many {
		m.Read(0, i%4096)
	}
	all := m.Trace()
	if len(all) != many || m.Many() != many {
		t.Fatalf("%d events are told, Many() = %d", len(all), m.Many())
	}
	for i, e := range all {
		if e != (api.Event{At: i % 4096}) {
			t.Fatalf("event %d is %v", i, e)
		}
	}
	checkEvents(t, "Since", m.Since(many-2), all[many-2:])
}

// P3, for what M1 and M3 are handed and tell.

func TestSizesThatWereHandedInStay(t *testing.T) {
	room := []int{9, 2, 3, 9, 9}
	m := made(t, room[1:3]...)
	m.Write(0, 0, cellFrom(1))
	m.Read(1, 9)
	if !slices.Equal(room, []int{9, 2, 3, 9, 9}) {
		t.Errorf("the sizes became %v", room)
	}
	mem.New(room[:0])
	if !slices.Equal(room, []int{9, 2, 3, 9, 9}) {
		t.Errorf("the sizes became %v", room)
	}
}

func TestWhatIsDoneToTheSizesIsNotSeen(t *testing.T) {
	sizes := []int{2, 3}
	m := made(t, sizes...)
	sizes[0], sizes[1] = 7, 0
	_ = append(sizes[:1], 5)
	if m.Size(0) != 2 || m.Size(1) != 3 || m.Size(2) != 0 {
		t.Error(m.Size(0), m.Size(1), m.Size(2))
	}
	m.Read(1, 2)
	checkState(t, m, false, []api.Event{{Region: 1, At: 2}})
	m.Read(0, 2)
	checkState(t, m, true, []api.Event{{Region: 1, At: 2}})
}

func TestWhatLiesBehindTheLengthIsNoSize(t *testing.T) {
	m := made(t, []int{2, 3, 4097, -1}[:2]...)
	if m.Size(1) != 3 || m.Size(2) != 0 {
		t.Error(m.Size(1), m.Size(2))
	}
	if _, e := mem.New(sizesOf(17, 1)[:16]); e != api.OK {
		t.Error(e)
	}
}

func TestWhatIsDoneToToldEventsIsNotSeen(t *testing.T) {
	spoilt := api.Event{Region: 77, At: 77, Write: true}
	for from := -1; from < 6; from++ {
		m := made(t, 9)
		for at := range 4 {
			m.Read(0, at)
		}
		for _, told := range [][]api.Event{m.Since(from), m.Trace()} {
			room := told[:cap(told)]
			for i := range room {
				room[i] = spoilt
			}
			_ = append(told, spoilt, spoilt)
			checkState(t, m, false, reads(0, 1, 2, 3))
		}
		// A spoilt list must not lie where the next events come to lie, either.
		told := m.Since(from)
		m.Read(0, 4)
		_ = append(told, spoilt)
		m.Read(0, 5)
		checkState(t, m, false, reads(0, 1, 2, 3, 4, 5))
	}
}

func TestToldEventsStayWhileTheMemoryGoesOn(t *testing.T) {
	for many := range 20 {
		m := made(t, 64)
		want := []int{}
		for at := range many {
			m.Read(0, at)
			want = append(want, at)
		}
		all, last := m.Trace(), m.Since(many-1)
		longer := append(all, api.Event{At: 99})
		for range 40 {
			m.Write(0, 0, cellFrom(1))
		}
		checkEvents(t, "the events told", all, reads(want...))
		checkEvents(t, "the last event told", last, reads(want[max(many-1, 0):]...))
		checkEvents(t, "the events told and one more", longer, append(reads(want...), api.Event{At: 99}))
	}
}

func TestToldListsAreApart(t *testing.T) {
	m := made(t, 3)
	for at := range 3 {
		m.Read(0, at)
	}
	first, second, third := m.Trace(), m.Trace(), m.Since(1)
	clear(first)
	checkEvents(t, "the second list", second, reads(0, 1, 2))
	checkEvents(t, "the third list", third, reads(1, 2))
}

// M4.

// model is a memory as the chapter tells it, with a map for cells.
type model struct {
	sizes  []int
	cells  map[[2]int]api.Cell
	events []api.Event
	fault  bool
}

func (o *model) do(l look) api.Cell {
	if l.region < 0 || l.region >= len(o.sizes) || l.at < 0 || l.at >= o.sizes[l.region] {
		o.fault = true
		return api.Cell{}
	}
	o.events = append(o.events, api.Event{Region: l.region, At: l.at, Write: l.write})
	if l.write {
		o.cells[[2]int{l.region, l.at}] = l.cell
		return api.Cell{}
	}
	return o.cells[[2]int{l.region, l.at}]
}

// looksOf are many looks without a pattern, within the sizes, or, if wild, also one cell or region beside them.
func looksOf(many int, sizes []int, wild bool) []look {
	state := uint64(many)
	below := func(n int) int {
		state = state*6364136223846793005 + 1442695040888963407
		return int(state >> 33 % uint64(n))
	}
	l := make([]look, many)
	for i := range l {
		l[i] = look{region: below(len(sizes)), write: below(2) == 1, cell: cellFrom(i)}
		l[i].at = below(sizes[l[i].region])
		if wild && below(8) == 0 {
			l[i].region, l[i].at = below(len(sizes)+2)-1, below(7)-1
		}
	}
	return l
}

func TestACellIsWhatWasWrittenLast(t *testing.T) {
	for _, wild := range []bool{false, true} {
		for _, sizes := range [][]int{{1}, {3}, {1, 5, 2}, sizesOf(16, 2)} {
			m, o := made(t, sizes...), &model{sizes: sizes, cells: map[[2]int]api.Cell{}}
			for i, l := range looksOf(500, sizes, wild) {
				if got, want := do(m, l), o.do(l); got != want {
					t.Fatalf("of %v, look %d, %v: %#x, want %#x", sizes, i, l, got, want)
				}
				if m.Fault() != o.fault || m.Many() != len(o.events) {
					t.Fatalf("of %v, look %d, %v: fault %v, %d events", sizes, i, l, m.Fault(), m.Many())
				}
			}
			checkState(t, m, o.fault, o.events)
			if o.fault != wild {
				t.Errorf("of %v: these looks try no fault, or one too many", sizes)
			}
		}
	}
}

func TestACellThatWasReadStays(t *testing.T) {
	m := made(t, 1)
	m.Write(0, 0, cellFrom(1))
	c := m.Read(0, 0)
	c[0], c[11] = 1, 1
	checkCell(t, m, 0, 0, cellFrom(1))
	m.Write(0, 0, c)
	c[0] = 2
	if got := m.Read(0, 0); got[0] != 1 || got[11] != 1 || got[5] != cellFrom(1)[5] {
		t.Errorf("Read(0, 0) = %#x", got)
	}
	m.Write(0, 0, api.Cell{})
	checkCell(t, m, 0, 0, api.Cell{})
}

func TestEventsNeverHangOnWhatIsInTheCells(t *testing.T) {
	sizes := []int{3, 1, 4}
	contents := []func(i int) api.Cell{
		func(i int) api.Cell { return api.Cell{} },
		func(i int) api.Cell { return cellFrom(7) },
		cellFrom,
		func(i int) api.Cell { return cellFrom(i % 2) },
	}
	for _, wild := range []bool{false, true} {
		var want []api.Event
		for k, content := range contents {
			m := made(t, sizes...)
			for i, l := range looksOf(300, sizes, wild) {
				l.cell = content(i)
				do(m, l)
			}
			if k == 0 {
				want = m.Trace()
			}
			checkState(t, m, wild, want)
		}
	}
}

func TestMemoriesBesideEachOtherAreApart(t *testing.T) {
	sizes := []int{2, 3}
	a, b := made(t, sizes...), made(t, sizes...)
	a.Write(1, 2, cellFrom(1))
	checkState(t, b, false, nil)
	checkCell(t, b, 1, 2, api.Cell{})
	b.Write(1, 2, cellFrom(2))
	a.Read(2, 0)
	checkState(t, b, false, []api.Event{{Region: 1, At: 2}, {Region: 1, At: 2, Write: true}})
	checkState(t, a, true, []api.Event{{Region: 1, At: 2, Write: true}})
	checkCell(t, a, 1, 2, cellFrom(1))
	checkCell(t, b, 1, 2, cellFrom(2))
	if c := made(t, sizes...); c.Read(1, 2) != (api.Cell{}) || c.Fault() || c.Many() != 1 {
		t.Error("a third memory knows of the others")
	}
}

func TestChapterExample(t *testing.T) {
	m := made(t, 2)
	c := cellFrom(1)
	m.Write(0, 1, c)
	checkCell(t, m, 0, 1, c)
	checkState(t, m, false, []api.Event{{At: 1, Write: true}, {At: 1}})
	checkCell(t, m, 0, 9, api.Cell{})
	checkState(t, m, true, []api.Event{{At: 1, Write: true}, {At: 1}})
}

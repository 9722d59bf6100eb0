package store_test

import (
	"math"
	"slices"
	"testing"

	"shellgame/api"
	"shellgame/level"
	"shellgame/mem"
	"shellgame/store"
	"shellgame/tape"
)

// rightBlocks are all that are right, written out.
func rightBlocks() []int { return []int{1, 2, 4, 8, 16, 32, 64, 128, 256, 512, 1024} }

func isRight(c store.Config) bool {
	return slices.Contains(rightBlocks(), c.Blocks) && 1 <= c.Slots && c.Slots <= 8 && 1 <= c.Stash && c.Stash <= 64 && 1 <= c.Levels && c.Levels <= 4
}

func wrongConfigs() []store.Config {
	var l []store.Config
	edges := []int{math.MinInt, math.MinInt + 1, -1 << 32, -4, -1, 0, 1, 2, 4, 5, 8, 1 << 32, 1<<32 + 1, 1 << 62, math.MaxInt}
	for _, blocks := range append([]int{3, 6, 7, 12, 1000, 1023, 1024, 1025, 2048, 4096}, edges...) {
		for _, slots := range append([]int{9, 16}, edges...) {
			for _, stash := range append([]int{64, 65, 128}, edges...) {
				for _, levels := range append([]int{3, 6}, edges...) {
					if c := (store.Config{Blocks: blocks, Slots: slots, Stash: stash, Levels: levels}); !isRight(c) {
						l = append(l, c)
					}
				}
			}
		}
	}
	return l
}

// someConfigs are right ones that fit in a memory.
func someConfigs() []store.Config {
	return []store.Config{
		{Blocks: 1, Slots: 1, Stash: 1, Levels: 1}, {Blocks: 1, Slots: 1, Stash: 1, Levels: 4}, {Blocks: 2, Slots: 1, Stash: 1, Levels: 1}, {Blocks: 2, Slots: 1, Stash: 2, Levels: 2},
		{Blocks: 4, Slots: 1, Stash: 1, Levels: 2}, {Blocks: 4, Slots: 2, Stash: 3, Levels: 3}, {Blocks: 8, Slots: 1, Stash: 1, Levels: 1}, {Blocks: 8, Slots: 1, Stash: 1, Levels: 2},
		{Blocks: 8, Slots: 2, Stash: 3, Levels: 3}, {Blocks: 16, Slots: 1, Stash: 2, Levels: 2}, {Blocks: 32, Slots: 1, Stash: 1, Levels: 3}, {Blocks: 32, Slots: 2, Stash: 4, Levels: 2},
		{Blocks: 64, Slots: 1, Stash: 3, Levels: 4}, {Blocks: 64, Slots: 3, Stash: 8, Levels: 3}, {Blocks: 256, Slots: 1, Stash: 1, Levels: 4}, {Blocks: 128, Slots: 2, Stash: 2, Levels: 3},
	}
}

// greatConfigs are right ones at the edges of what a memory holds.
func greatConfigs() []store.Config {
	return []store.Config{
		{Blocks: 1024, Slots: 1, Stash: 1, Levels: 1}, {Blocks: 1024, Slots: 2, Stash: 64, Levels: 4}, {Blocks: 1024, Slots: 1, Stash: 3, Levels: 3},
		{Blocks: 512, Slots: 4, Stash: 5, Levels: 4}, {Blocks: 256, Slots: 8, Stash: 64, Levels: 2}, {Blocks: 1, Slots: 8, Stash: 64, Levels: 4},
	}
}

// R1.

func TestConstants(t *testing.T) {
	if store.Pack != 4 || store.MaxLevels != 4 {
		t.Errorf("Pack is %d, MaxLevels %d", store.Pack, store.MaxLevels)
	}
}

func TestRightSizesAndWordsOfEachRightConfig(t *testing.T) {
	for _, blocks := range rightBlocks() {
		for slots := 1; slots <= 8; slots++ {
			for stash := 1; stash <= 64; stash++ {
				for levels := 1; levels <= 4; levels++ {
					c := store.Config{Blocks: blocks, Slots: slots, Stash: stash, Levels: levels}
					if !store.Right(c) || store.Words(c) != []int{0, 2, 4, 6, 8}[levels] {
						t.Errorf("%v: right %v, %d words", c, store.Right(c), store.Words(c))
					}
					if got := store.Sizes(c); !slices.Equal(got, sizesOf(c)) {
						t.Errorf("Sizes(%v) = %v, not %v", c, got, sizesOf(c))
					}
				}
			}
		}
	}
}

func TestWrongConfigs(t *testing.T) {
	for _, c := range wrongConfigs() {
		if store.Right(c) || len(store.Sizes(c)) != 0 || store.Words(c) != 0 {
			t.Errorf("%v: right %v, sizes %v, %d words", c, store.Right(c), store.Sizes(c), store.Words(c))
		}
	}
}

func TestSizesWrittenOut(t *testing.T) {
	for _, x := range []struct {
		c     store.Config
		sizes []int
		words int
	}{
		{store.Config{Blocks: 1, Slots: 1, Stash: 1, Levels: 1}, []int{1, 1, 1, 4}, 2},
		{store.Config{Blocks: 1, Slots: 1, Stash: 1, Levels: 4}, []int{1, 1, 1, 4, 1, 1, 4, 1, 1, 4, 1, 1, 4}, 8},
		{store.Config{Blocks: 2, Slots: 1, Stash: 1, Levels: 1}, []int{2, 3, 1, 4}, 2},
		{store.Config{Blocks: 2, Slots: 1, Stash: 1, Levels: 2}, []int{1, 3, 1, 4, 1, 1, 4}, 4},
		{store.Config{Blocks: 4, Slots: 1, Stash: 1, Levels: 2}, []int{1, 7, 1, 8, 1, 1, 4}, 4},
		{store.Config{Blocks: 8, Slots: 2, Stash: 3, Levels: 2}, []int{2, 30, 3, 16, 6, 3, 8}, 4},
		{store.Config{Blocks: 8, Slots: 2, Stash: 3, Levels: 3}, []int{1, 30, 3, 16, 6, 3, 8, 2, 3, 8}, 6},
		{store.Config{Blocks: 64, Slots: 1, Stash: 6, Levels: 3}, []int{4, 127, 6, 16, 31, 6, 16, 7, 6, 16}, 6},
		{store.Config{Blocks: 1024, Slots: 1, Stash: 1, Levels: 1}, []int{1024, 2047, 1, 16}, 2},
		{store.Config{Blocks: 1024, Slots: 8, Stash: 64, Levels: 4}, []int{16, 16376, 64, 256, 4088, 64, 256, 1016, 64, 128, 248, 64, 128}, 8},
		{store.Config{}, nil, 0}, {store.Config{Blocks: 0, Slots: 1, Stash: 1, Levels: 1}, nil, 0}, {store.Config{Blocks: 3, Slots: 1, Stash: 1, Levels: 1}, nil, 0},
		{store.Config{Blocks: 2048, Slots: 1, Stash: 1, Levels: 1}, nil, 0}, {store.Config{Blocks: 8, Slots: 1, Stash: 1, Levels: 0}, nil, 0}, {store.Config{Blocks: 8, Slots: 1, Stash: 1, Levels: 5}, nil, 0},
		{store.Config{Blocks: 8, Slots: 0, Stash: 1, Levels: 1}, nil, 0}, {store.Config{Blocks: 8, Slots: 9, Stash: 1, Levels: 1}, nil, 0},
		{store.Config{Blocks: 8, Slots: 1, Stash: 0, Levels: 1}, nil, 0}, {store.Config{Blocks: 8, Slots: 1, Stash: 65, Levels: 1}, nil, 0},
	} {
		if got := store.Sizes(x.c); !slices.Equal(got, x.sizes) || store.Words(x.c) != x.words || store.Right(x.c) != (x.words > 0) {
			t.Errorf("%v: right %v, sizes %v, %d words", x.c, store.Right(x.c), got, store.Words(x.c))
		}
	}
}

// checkNew asks for a store or ErrArg, and that nothing is to be seen of either.
func checkNew(t *testing.T, m *mem.Memory, first int, c store.Config, want api.Errno) {
	t.Helper()
	x := tape.New([]uint64{1, 2, 3})
	s, e := store.New(m, first, c, x)
	if e != want || (s != nil) != (want == api.OK) {
		t.Errorf("New(m, %d, %v) = %v, %v, not %v", first, c, s != nil, e, want)
	}
	if m.Many() != 0 || m.Fault() || x.Used() != 0 || x.Short() {
		t.Errorf("New(m, %d, %v): %d events, fault %v, %d words taken", first, c, m.Many(), m.Fault(), x.Used())
	}
	if s != nil && (s.Over() || !slices.Equal(s.Counts(), make([]int, c.Levels)) || len(s.Sources()) != 0 || len(s.Leaves()) != 0) {
		t.Errorf("New(m, %d, %v): over %v, counts %v, sources %v, leaves %v", first, c, s.Over(), s.Counts(), s.Sources(), s.Leaves())
	}
}

func TestNewByTheCellsThatThereAre(t *testing.T) {
	for _, c := range append(someConfigs(), greatConfigs()...) {
		just := sizesOf(c)
		for _, first := range []int{0, 1, 2, 3, 15 - 3*c.Levels} {
			// Those ahead are as great as any that is meant.
			sizes := append(slices.Repeat([]int{slices.Max(just)}, first), just...)
			checkNew(t, memory(t, sizes...), first, c, api.OK)
			checkNew(t, memory(t, slices.Concat(sizes, slices.Repeat([]int{1}, mem.MaxRegions-len(sizes)))...), first, c, api.OK)
			for region := first; region < len(sizes); region++ {
				more, less := slices.Clone(sizes), slices.Clone(sizes)
				more[region]++
				less[region]--
				want := api.OK
				if region == first {
					want = api.ErrArg
				}
				checkNew(t, memory(t, more...), first, c, want)
				// A region has one cell at least.
				if less[region] > 0 {
					checkNew(t, memory(t, less...), first, c, api.ErrArg)
				}
			}
		}
	}
}

func TestNewWithATopThatIsNotJustSo(t *testing.T) {
	for _, c := range someConfigs() {
		just := sizesOf(c)
		for _, top := range []int{1, 2, 3, 4, 8, 16, 64, 256, 4095, 4096} {
			want := api.ErrArg
			if top == just[0] {
				want = api.OK
			}
			checkNew(t, memory(t, slices.Concat([]int{top}, just[1:])...), 0, c, want)
		}
	}
}

func TestNewWithRegionsThatThereAreNot(t *testing.T) {
	for _, c := range append(someConfigs(), greatConfigs()...) {
		just := sizesOf(c)
		// Of a memory that ends within the regions, or is all of it tops.
		for many := 1; many < len(just); many++ {
			checkNew(t, memory(t, just[:many]...), 0, c, api.ErrArg)
			checkNew(t, memory(t, slices.Repeat([]int{just[0]}, many)...), 0, c, api.ErrArg)
		}
		m := memory(t, just...)
		for _, first := range []int{1, 2, 3, 4, 12, 13, 15, 16, 17, 1 << 16, 1 << 32, 1 << 62, math.MaxInt - 12, math.MaxInt - 3, math.MaxInt - 1, math.MaxInt, -1, -2, -3, -4, -16, -1 << 32, math.MinInt + 1, math.MinInt} {
			checkNew(t, m, first, c, api.ErrArg)
		}
		// One region more is missing with each first.
		last := mem.MaxRegions - len(just)
		for first := last; first < mem.MaxRegions; first++ {
			sizes := append(slices.Repeat([]int{1}, first), just...)
			want := api.ErrArg
			if first == last {
				want = api.OK
			}
			checkNew(t, memory(t, sizes[:mem.MaxRegions]...), first, c, want)
		}
	}
}

func TestNewOfConfigsThatAreNotRight(t *testing.T) {
	great := memory(t, slices.Repeat([]int{mem.MaxCells}, mem.MaxRegions)...)
	small := memory(t, slices.Repeat([]int{1}, mem.MaxRegions)...)
	for _, c := range wrongConfigs() {
		checkNew(t, great, 0, c, api.ErrArg)
		checkNew(t, small, 0, c, api.ErrArg)
	}
	for _, c := range []store.Config{{}, {Blocks: 3, Slots: 1, Stash: 1, Levels: 1}, {Blocks: 1, Slots: 1, Stash: 1, Levels: 5}} {
		for _, first := range []int{-1, 1, 12, 15, 16, math.MinInt, math.MaxInt} {
			checkNew(t, great, first, c, api.ErrArg)
		}
		// Just the cells that it would need, were it right.
		checkNew(t, memory(t, 3, 7, 1, 8), 0, c, api.ErrArg)
		checkNew(t, memory(t, 1, 1, 1, 4, 1, 1, 4, 1, 1, 4, 1, 1, 4, 1, 1, 4), 0, c, api.ErrArg)
	}
	checkNew(t, memory(t, 2048, 4095, 1, 16), 0, store.Config{Blocks: 2048, Slots: 1, Stash: 1, Levels: 1}, api.ErrArg)
	// Right, but no region is so great.
	for _, c := range []store.Config{{Blocks: 1024, Slots: 3, Stash: 1, Levels: 1}, {Blocks: 1024, Slots: 8, Stash: 64, Levels: 4}, {Blocks: 512, Slots: 5, Stash: 1, Levels: 2}} {
		sizes := sizesOf(c)
		for i, n := range sizes {
			sizes[i] = min(n, mem.MaxCells)
		}
		checkNew(t, memory(t, sizes...), 0, c, api.ErrArg)
	}
}

// R2.

func TestExampleOfTheChapter(t *testing.T) {
	d := data(1)
	for _, words := range [][]uint64{nil, {1, 2, 3, 4, 5, 6}} {
		p := made(t, store.Config{Blocks: 4, Slots: 1, Stash: 1, Levels: 1}, words)
		checkTold(t, p.s, ask{level.Put, 3, d}, api.Data{}, false)
		checkTold(t, p.s, ask{level.Look, 3, api.Data{}}, d, true)
		checkTold(t, p.s, ask{level.Look, 2, api.Data{}}, api.Data{}, false)
	}
}

func TestWhatIsTold(t *testing.T) {
	d, e, none := data(1), data(2), api.Data{}
	by := chance(1)
	for levels := 1; levels <= 4; levels++ {
		p := made(t, store.Config{Blocks: 8, Slots: 2, Stash: 4, Levels: levels}, by.words(200))
		for _, x := range []struct {
			a     ask
			want  api.Data
			there bool
		}{
			{ask{level.Look, 5, e}, none, false}, {ask{level.Look, 5, e}, none, false}, {ask{level.Drop, 5, e}, none, false}, {ask{level.Put, 5, d}, none, false},
			{ask{level.Look, 5, e}, d, true}, {ask{level.Put, 5, e}, d, true}, {ask{level.Put, 5, e}, e, true}, {ask{level.Put, 0, d}, none, false},
			{ask{level.Put, 7, none}, none, false}, {ask{level.Look, 7, d}, none, true}, {ask{level.Look, 4, d}, none, false}, {ask{level.Look, 0, e}, d, true},
			{ask{level.Look, 5, none}, e, true}, {ask{level.Drop, 5, d}, e, true}, {ask{level.Drop, 5, d}, none, false}, {ask{level.Look, 5, d}, none, false},
			{ask{level.Look, 0, none}, d, true}, {ask{level.Put, 5, d}, none, false}, {ask{level.Drop, 7, d}, none, true}, {ask{level.Look, 5, none}, d, true},
		} {
			checkTold(t, p.s, x.a, x.want, x.there)
		}
	}
}

func TestCellsWrittenOut(t *testing.T) {
	d, e, f := api.Data{11, 12, 13, 14, 15, 16, 17, 18}, api.Data{21, 22, 23, 24, 25, 26, 27, 28}, api.Data{31, 32, 33, 34, 35, 36, 37, 38}
	// Of each access: level 1's fresh and spare word, level 0's.
	p := made(t, store.Config{Blocks: 8, Slots: 1, Stash: 2, Levels: 2}, []uint64{
		1, 0, 5, 2, 0, 1, 4, 7, 1, 1, greatest, 1<<63 + 3, 0, 1, 1, 0, 1, 0, 3, 2, 0, 1, 6, 6, 0, 1, 6, 5,
	})
	late6, late7, late1 := api.Cell{1, 6, 4, 11, 12, 13, 14, 15, 16, 17, 18}, api.Cell{1, 7, 7, 21, 22, 23, 24, 25, 26, 27, 28}, api.Cell{1, 1, 1, 31, 32, 33, 34, 35, 36, 37, 38}
	for i, x := range []struct {
		a        ask
		top      []api.Cell
		one      map[int]api.Cell
		zero     map[int]api.Cell
		leaves   []int
		sources  []int
		is       bool
		counts   []int
		wordsNow int
	}{
		{ask{level.Put, 6, d}, []api.Cell{{}, {2, 0}}, map[int]api.Cell{0: {1, 1, 1, 0, 0, 0, 0, 6, 2}}, map[int]api.Cell{0: {1, 6, 5, 11, 12, 13, 14, 15, 16, 17, 18}}, []int{0, 2}, []int{1, 3}, false, []int{1, 1}, 4},
		{ask{level.Look, 6, e}, []api.Cell{{}, {1, 4}}, map[int]api.Cell{0: {1, 1, 0, 0, 0, 0, 0, 5, 6}}, map[int]api.Cell{5: late6}, []int{1, 5}, []int{0, 2}, true, []int{1, 1}, 8},
		{ask{level.Put, 7, e}, []api.Cell{{}, {2, 8}}, map[int]api.Cell{0: {1, 1, 1, 0, 0, 0, 0, 5, 6, 8, 10}}, map[int]api.Cell{5: late6, 0: late7}, []int{0, 3}, []int{4, 11}, false, []int{2, 1}, 12},
		{ask{level.Put, 1, f}, []api.Cell{{1, 12}, {2, 8}}, map[int]api.Cell{0: {1, 0, 0, 0, 0, 2, 14}, 2: {1, 1, 1, 0, 0, 0, 0, 5, 6, 8, 10}}, map[int]api.Cell{5: late6, 0: late7, 3: late1}, []int{1, 0}, []int{13, 15}, false, []int{3, 2}, 16},
		{ask{level.Drop, 6, f}, []api.Cell{{1, 12}, {2, 16}}, map[int]api.Cell{0: {1, 0, 0, 0, 0, 2, 14}, 2: {1, 1, 1, 0, 0, 0, 0, 4, 18, 8, 10}}, map[int]api.Cell{2: late7, 3: late1}, []int{1, 4}, []int{8, 6}, true, []int{3, 2}, 20},
		{ask{level.Look, 2, f}, []api.Cell{{1, 20}, {2, 16}}, map[int]api.Cell{1: {1, 0, 0, 0, 0, 2, 14, 7, 22}, 2: {1, 1, 1, 0, 0, 0, 0, 4, 18, 8, 10}}, map[int]api.Cell{6: late7, 3: late1}, []int{0, 6}, []int{12, 23}, false, []int{3, 2}, 24},
		{ask{level.Look, 2, f}, []api.Cell{{1, 24}, {2, 16}}, map[int]api.Cell{1: {1, 0, 0, 0, 0, 2, 14, 7, 26}, 2: {1, 1, 1, 0, 0, 0, 0, 4, 18, 8, 10}}, map[int]api.Cell{6: late7, 3: late1}, []int{0, 6}, []int{20, 22}, false, []int{3, 2}, 28},
	} {
		if _, there := p.s.Access(x.a.op, x.a.id, x.a.d); there != x.is {
			t.Errorf("%d: there %v", i, there)
		}
		trees := [][]api.Cell{make([]api.Cell, 15), make([]api.Cell, 3)}
		for h, cells := range []map[int]api.Cell{x.zero, x.one} {
			for at, cell := range cells {
				trees[h][at] = cell
			}
		}
		if top, zero, one := cellsOf(p.m, 0), cellsOf(p.m, 1), cellsOf(p.m, 4); !slices.Equal(top, x.top) || !slices.Equal(zero, trees[0]) || !slices.Equal(one, trees[1]) {
			t.Errorf("%d: top, level 0, level 1 are\n%d\n%d\n%d", i, top, zero, one)
		}
		for _, region := range []int{2, 5} {
			if stash := cellsOf(p.m, region); !slices.Equal(stash, make([]api.Cell, 2)) {
				t.Errorf("%d: the stash in region %d is %d", i, region, stash)
			}
		}
		leaves, sources := p.s.Leaves(), p.s.Sources()
		if !slices.Equal(leaves[2*i:], x.leaves) || !slices.Equal(sources[2*i:], x.sources) || !slices.Equal(p.s.Counts(), x.counts) || p.t.Used() != x.wordsNow || p.s.Over() {
			t.Errorf("%d: leaves %v, sources %v, counts %v, %d words", i, leaves, sources, p.s.Counts(), p.t.Used())
		}
	}
}

// blocksThatStand are the cells that have a block, of the tree and the stash of a level.
func blocksThatStand(m *mem.Memory, h int) []api.Cell {
	return slices.DeleteFunc(append(cellsOf(m, 1+3*h), cellsOf(m, 2+3*h)...), func(c api.Cell) bool { return c[0] == 0 })
}

// Block 743 is told of by 185, that one by 46, that one by 11, that one by the top.
func TestWhichWordsSayWhere(t *testing.T) {
	words := []uint64{15, 14, 62, 61, 254, 253, 1020, 1019, 13, 12, 60, 59, 252, 251, 1018, 1017}
	p := made(t, store.Config{Blocks: 1024, Slots: 1, Stash: 9, Levels: 4}, words)
	checkTold(t, p.s, ask{level.Put, 743, api.Data{9}}, api.Data{}, false)
	for h, want := range []api.Cell{{1, 743, 1020, 9}, {1, 185, 254, 0, 0, 0, 0, 0, 0, 1021, 6}, {1, 46, 62, 0, 0, 255, 4}, {1, 11, 15, 0, 0, 0, 0, 63, 2}} {
		if got := blocksThatStand(p.m, h); !slices.Equal(got, []api.Cell{want}) {
			t.Errorf("level %d has %d", h, got)
		}
	}
	if top := cellsOf(p.m, 0); top[11] != (api.Cell{16, 0}) || !slices.Equal(append(top[:11], top[12:]...), make([]api.Cell, 15)) {
		t.Errorf("the top is %d", top)
	}
	checkTold(t, p.s, ask{level.Look, 743, api.Data{}}, api.Data{9}, true)
	if !slices.Equal(p.s.Leaves(), []int{14, 61, 253, 1019, 15, 62, 254, 1020}) || !slices.Equal(p.s.Sources(), []int{1, 3, 5, 7, 0, 2, 4, 6}) {
		t.Errorf("ways %v of %v", p.s.Leaves(), p.s.Sources())
	}
	for h, want := range []api.Cell{{1, 743, 1018, 9}, {1, 185, 252, 0, 0, 0, 0, 0, 0, 1019, 14}, {1, 46, 60, 0, 0, 253, 12}, {1, 11, 13, 0, 0, 0, 0, 61, 10}} {
		if got := blocksThatStand(p.m, h); !slices.Equal(got, []api.Cell{want}) {
			t.Errorf("level %d has %d", h, got)
		}
	}
}

// Of one block each level above has one, whatever the level below is.
func TestLevelsOfOneBlock(t *testing.T) {
	p := made(t, store.Config{Blocks: 2, Slots: 1, Stash: 2, Levels: 4}, []uint64{7, 7, 7, 7, 7, 7, 7, 6, 7, 7, 7, 7, 7, 7, 6, 7})
	checkTold(t, p.s, ask{level.Put, 1, api.Data{5}}, api.Data{}, false)
	for h, want := range []api.Cell{{1, 1, 1, 5}, {1, 0, 0, 0, 0, 2, 6}, {1, 0, 0, 1, 4}, {1, 0, 0, 1, 2}} {
		if got := blocksThatStand(p.m, h); !slices.Equal(got, []api.Cell{want}) {
			t.Errorf("level %d has %d", h, got)
		}
	}
	checkTold(t, p.s, ask{level.Look, 0, api.Data{}}, api.Data{}, false)
	for h, want := range []api.Cell{{1, 1, 1, 5}, {1, 0, 0, 1, 14, 2, 6}, {1, 0, 0, 1, 12}, {1, 0, 0, 1, 10}} {
		if got := blocksThatStand(p.m, h); !slices.Equal(got, []api.Cell{want}) {
			t.Errorf("level %d has %d", h, got)
		}
	}
	if !slices.Equal(p.s.Leaves(), []int{0, 0, 0, 0, 0, 0, 0, 1}) || !slices.Equal(p.s.Sources(), []int{1, 3, 5, 7, 0, 2, 4, 15}) || !slices.Equal(cellsOf(p.m, 0), []api.Cell{{1, 8}}) {
		t.Errorf("ways %v of %v, top %d", p.s.Leaves(), p.s.Sources(), cellsOf(p.m, 0))
	}
}

// wrongAsks are of no op, and of no block.
func wrongAsks(c store.Config) []ask {
	var l []ask
	for _, op := range []int{-1, level.Part, 4, 5, -2, 1 << 32, 1<<32 + 1, math.MinInt, math.MaxInt} {
		for _, id := range []uint64{0, uint64(c.Blocks) - 1, uint64(c.Blocks), greatest} {
			l = append(l, ask{op, id, data(3)})
		}
	}
	for _, op := range []int{level.Look, level.Put, level.Drop} {
		for _, id := range []uint64{uint64(c.Blocks), uint64(c.Blocks) + 1, 2 * uint64(c.Blocks), 1 << 31, 1<<32 + 1, 1 << 63, greatest} {
			l = append(l, ask{op, id, data(3)})
		}
	}
	return l
}

func TestAccessesThatAreNotRight(t *testing.T) {
	for _, c := range someConfigs() {
		by := chance(c.Blocks)
		p := made(t, c, by.words(12*c.Levels))
		for range 3 {
			many, used := p.m.Many(), p.t.Used()
			for _, a := range wrongAsks(c) {
				checkTold(t, p.s, a, api.Data{}, false)
				if p.m.Many() != many || p.t.Used() != used || p.t.Short() {
					t.Fatalf("%v: %+v: %d events more, %d words more", c, a, p.m.Many()-many, p.t.Used()-used)
				}
			}
			p.checkState(t)
			for _, a := range []ask{{level.Put, uint64(c.Blocks) - 1, data(1)}, {level.Look, 0, data(2)}} {
				p.check(t, a)
				p.checkState(t)
			}
		}
	}
}

func TestEachAccessIsAsTheTwins(t *testing.T) {
	for i, c := range someConfigs() {
		for _, ids := range []int{1, 3, 9, 40, 1024} {
			by := chance(100*i + ids)
			rounds := max(8, min(60, 2000/slices.Max(sizesOf(c))))
			p := made(t, c, by.words(rounds*2*c.Levels))
			for range rounds {
				p.check(t, wild(c, ids, &by))
				p.checkState(t)
			}
		}
	}
}

func TestGreatStores(t *testing.T) {
	for i, c := range greatConfigs() {
		by := chance(i)
		p := made(t, c, by.words(18*2*c.Levels))
		for range 3 {
			for range 6 {
				p.check(t, wild(c, 6, &by))
			}
			p.checkState(t)
		}
	}
}

// A block that nobody knows goes the spare word's way, and from then on its own.
func TestTheSecondAccessGoesTheWayOfTheFirstOnesFreshWord(t *testing.T) {
	for _, c := range someConfigs() {
		for _, op := range []int{level.Look, level.Put, level.Drop} {
			by := chance(c.Blocks + op)
			words := by.words(4 * c.Levels)
			p := made(t, c, words)
			id := uint64(by.below(c.Blocks))
			p.s.Access(op, id, data(1))
			p.s.Access(level.Look, id, data(2))
			var leaves, sources []int
			for turn := range 2 {
				for i := range c.Levels {
					// Its spare word stands behind the fresh one.
					place := 2*i + 1 - turn
					sources = append(sources, place)
					leaves = append(leaves, int(words[place]%uint64(blocksOf(c.Blocks)[c.Levels-1-i])))
				}
			}
			if !slices.Equal(p.s.Leaves(), leaves) || !slices.Equal(p.s.Sources(), sources) {
				t.Errorf("%v: op %d: ways %v of %v, not %v of %v", c, op, p.s.Leaves(), p.s.Sources(), leaves, sources)
			}
		}
	}
}

// knower knows of each block the word that it was given last, and of each level nothing else.
type knower struct {
	c     store.Config
	known [store.MaxLevels]map[uint64]int
	used  int
}

func newKnower(c store.Config) *knower {
	k := &knower{c: c}
	for h := range k.known {
		k.known[h] = map[uint64]int{}
	}
	return k
}

// access tells the places of the words whose ways an access goes, the last level's first.
func (k *knower) access(id uint64) []int {
	var l []int
	for h := k.c.Levels - 1; h >= 0; h-- {
		block := id >> (2 * h)
		place, there := k.known[h][block]
		if !there {
			place = k.used + 1
		}
		l = append(l, place)
		k.known[h][block] = k.used
		k.used += 2
	}
	return l
}

// While no block is lost, each way is that of the word that the block was given last on its level.
func TestBlocksAreWhereTheyWereSentLast(t *testing.T) {
	for _, c := range someConfigs() {
		by := chance(c.Blocks * 7)
		words := by.words(100 * 2 * c.Levels)
		p := made(t, c, words)
		k := newKnower(c)
		var want []int
		for range 100 {
			a := wild(c, c.Stash+1, &by)
			p.s.Access(a.op, a.id, a.d)
			want = append(want, k.access(a.id)...)
			if p.s.Over() {
				break
			}
		}
		sources := p.s.Sources()
		if !slices.Equal(sources, want) {
			t.Errorf("%v: sources %v, not %v", c, sources, want)
		}
		for i, leaf := range p.s.Leaves() {
			if h := c.Levels - 1 - i%c.Levels; leaf != int(words[sources[i]]%uint64(blocksOf(c.Blocks)[h])) {
				t.Errorf("%v: way %d is to %d, the word of place %d is %x", c, i, leaf, sources[i], words[sources[i]])
			}
		}
	}
}

func TestATapeThatEndsWithinAnAccess(t *testing.T) {
	for _, c := range []store.Config{{Blocks: 8, Slots: 1, Stash: 2, Levels: 1}, {Blocks: 8, Slots: 2, Stash: 3, Levels: 2}, {Blocks: 64, Slots: 1, Stash: 3, Levels: 4}} {
		for many := 0; many <= 4*2*c.Levels; many++ {
			by := chance(many)
			p := made(t, c, by.words(many))
			for i := range 8 {
				p.check(t, wild(c, 3, &by))
				p.checkState(t)
				if p.t.Used() != (i+1)*2*c.Levels || p.t.Short() != (p.t.Used() > many) {
					t.Errorf("%v: of %d words %d were taken, short %v", c, many, p.t.Used(), p.t.Short())
				}
			}
		}
	}
}

// Behind the end each word is 0, and its place is told as any other.
func TestATapeOfNothing(t *testing.T) {
	d := data(4)
	p := made(t, store.Config{Blocks: 8, Slots: 2, Stash: 3, Levels: 2}, nil)
	checkTold(t, p.s, ask{level.Put, 5, d}, api.Data{}, false)
	checkTold(t, p.s, ask{level.Look, 5, api.Data{}}, d, true)
	checkTold(t, p.s, ask{level.Look, 2, api.Data{}}, api.Data{}, false)
	if !slices.Equal(p.s.Leaves(), make([]int, 6)) || !slices.Equal(p.s.Sources(), []int{1, 3, 0, 2, 9, 11}) || p.t.Used() != 12 || !p.t.Short() {
		t.Errorf("ways %v of %v, %d words taken", p.s.Leaves(), p.s.Sources(), p.t.Used())
	}
	if top := cellsOf(p.m, 0); !slices.Equal(top, []api.Cell{{1, 8}, {1, 4}}) {
		t.Errorf("the top is %d", top)
	}
}

// Places are those of the tape, whoever else reads it.
func TestATapeThatOthersRead(t *testing.T) {
	d := data(2)
	c := store.Config{Blocks: 4, Slots: 1, Stash: 3, Levels: 1}
	x := tape.New([]uint64{9, 9, 9, 1, 2, 9, 9, 3, 0, 9, 1, 2})
	x.Take(3)
	s, _ := store.New(memory(t, sizesOf(c)...), 0, c, x)
	checkTold(t, s, ask{level.Put, 1, d}, api.Data{}, false)
	x.Take(2)
	checkTold(t, s, ask{level.Look, 1, d}, d, true)
	x.Next()
	checkTold(t, s, ask{level.Look, 1, d}, d, true)
	if !slices.Equal(s.Leaves(), []int{2, 1, 3}) || !slices.Equal(s.Sources(), []int{4, 3, 7}) || x.Used() != 12 || x.Short() {
		t.Errorf("ways %v of %v, %d words taken", s.Leaves(), s.Sources(), x.Used())
	}
}

// R3.

func TestEventsWrittenOut(t *testing.T) {
	e := func(region, at, write int) api.Event { return api.Event{Region: region, At: at, Write: write == 1} }
	top := []api.Event{e(2, 0, 0), e(2, 0, 0), e(2, 0, 1)}
	two := []api.Event{e(2, 0, 0), e(2, 1, 0), e(2, 0, 0), e(2, 0, 1), e(2, 1, 0), e(2, 1, 1)}
	// Level 0 of two leaves stands in regions 3 to 5, level 1 of one in 6 to 8.
	zero := func(leaf int) []api.Event {
		return level.Events(3, level.Config{Leaves: 2, Slots: 1, Stash: 1}, leaf)
	}
	one := level.Events(6, level.Config{Leaves: 1, Slots: 1, Stash: 1}, 0)
	c := store.Config{Blocks: 2, Slots: 1, Stash: 1, Levels: 2}
	flat := store.Config{Blocks: 2, Slots: 1, Stash: 1, Levels: 1}
	for _, x := range []struct {
		c      store.Config
		leaves []int
		want   []api.Event
	}{
		{c, nil, nil}, {c, []int{}, nil}, {c, []int{0}, nil}, {c, []int{0, 1}, slices.Concat(top, one, zero(1))}, {c, []int{0, 0, 0}, slices.Concat(top, one, zero(0))},
		{c, []int{0, 1, 0, 0}, slices.Concat(top, one, zero(1), top, one, zero(0))}, {c, []int{0, 1, 0, 0, 0}, slices.Concat(top, one, zero(1), top, one, zero(0))},
		{flat, nil, nil}, {flat, []int{1}, slices.Concat(two, zero(1))}, {flat, []int{1, 0, 1}, slices.Concat(two, zero(1), two, zero(0), two, zero(1))},
	} {
		if got := store.Events(2, x.c, x.leaves); !slices.Equal(got, x.want) {
			t.Errorf("Events(2, %v, %v) are %v", x.c, x.leaves, got)
		}
	}
}

func TestEventsOfSomeLeaves(t *testing.T) {
	for i, c := range append(someConfigs(), store.Config{Blocks: 1024, Slots: 8, Stash: 64, Levels: 4}) {
		by := chance(i)
		firsts := []int{0, 3, math.MaxInt - 4, 1, 12, 100, -1, -2, -13, 1 << 32, math.MinInt, math.MaxInt - 1, math.MaxInt}
		// One that no memory holds is right, and has events: so many that a few firsts are enough.
		if c.Blocks == 1024 {
			firsts = firsts[:3]
		}
		for _, first := range firsts {
			var leaves []int
			var want []api.Event
			for many := range 3 {
				// What is left over counts nothing, and one access more only when it is whole.
				for left := range c.Levels {
					if got := store.Events(first, c, append(slices.Clone(leaves), make([]int, left)...)); !slices.Equal(got, want) {
						t.Errorf("Events(%d, %v) of %d accesses, and %d leaves, are others", first, c, many, left)
					}
				}
				var ways []int
				for h := c.Levels - 1; h >= 0; h-- {
					ways = append(ways, by.below(blocksOf(c.Blocks)[h]))
				}
				leaves, want = append(leaves, ways...), append(want, looksOf(first, c, ways)...)
			}
		}
	}
}

// lastLeaves are the last ones that there are.
func lastLeaves(c store.Config) []int {
	var l []int
	for h := c.Levels - 1; h >= 0; h-- {
		l = append(l, blocksOf(c.Blocks)[h]-1)
	}
	return l
}

func TestEventsOfLeavesThatThereAreNot(t *testing.T) {
	for _, c := range someConfigs() {
		last := slices.Concat(lastLeaves(c), lastLeaves(c), lastLeaves(c))
		if len(store.Events(0, c, last)) != 3*len(store.Events(0, c, last[:c.Levels])) || len(store.Events(0, c, last)) == 0 {
			t.Errorf("%v: no events of the last leaves", c)
		}
		for i, leaf := range last {
			for _, wrong := range []int{leaf + 1, leaf + 2, 2*leaf + 2, 1 << 32, -1, -2, -leaf - 1, math.MinInt, math.MaxInt} {
				// One is none, and there is nothing at all: of the others neither.
				leaves := slices.Clone(last)
				leaves[i] = wrong
				if got := store.Events(0, c, leaves); len(got) != 0 {
					t.Errorf("Events(0, %v, %v): %d", c, leaves, len(got))
				}
			}
		}
	}
}

// What is left over counts nothing, so that it is not asked whether there are such leaves.
func TestEventsOfLeavesThatAreLeftOver(t *testing.T) {
	for _, c := range someConfigs() {
		leaves := lastLeaves(c)
		want := looksOf(0, c, leaves)
		for left := 1; left < c.Levels; left++ {
			leaves = append(leaves, []int{-1, 1 << 32, math.MinInt}[left%3])
			if got := store.Events(0, c, leaves); !slices.Equal(got, want) {
				t.Errorf("Events(0, %v, %v): %d, not %d", c, leaves, len(got), len(want))
			}
			if got := store.Events(0, c, leaves[c.Levels:]); len(got) != 0 {
				t.Errorf("Events(0, %v, %v): %d", c, leaves[c.Levels:], len(got))
			}
		}
	}
}

func TestEventsOfNoStore(t *testing.T) {
	for _, c := range wrongConfigs() {
		for _, leaves := range [][]int{nil, {0}, {0, 0, 0, 0, 0, 0, 0, 0, 0, 0}} {
			if got := store.Events(0, c, leaves); len(got) != 0 {
				t.Errorf("Events(0, %v, %v): %d", c, leaves, len(got))
			}
		}
	}
}

// P3.
func TestEventsLeaveTheLeavesAsTheyAre(t *testing.T) {
	c := store.Config{Blocks: 8, Slots: 2, Stash: 3, Levels: 2}
	behind := []int{1, 7, 0, 3, 1, 99, -1}
	want := store.Events(0, c, []int{1, 7, 0, 3})
	if got := store.Events(0, c, behind[:4]); !slices.Equal(got, want) || len(got) == 0 {
		t.Error("what lies behind the leaves is read")
	}
	if got := store.Events(0, c, behind[:5]); !slices.Equal(got, want) {
		t.Error("what lies behind the leaves is read")
	}
	if !slices.Equal(behind, []int{1, 7, 0, 3, 1, 99, -1}) {
		t.Errorf("the leaves are %v", behind)
	}
	clear(store.Events(0, c, behind[:4]))
	if !slices.Equal(store.Events(0, c, behind[:4]), want) {
		t.Error("Events hang on what was done with those that were told before")
	}
}

func TestListsThatAreToldAreNew(t *testing.T) {
	c := store.Config{Blocks: 8, Slots: 2, Stash: 3, Levels: 2}
	by := chance(9)
	p := made(t, c, by.words(100))
	for range 10 {
		sizes := store.Sizes(c)
		for _, l := range [][]int{p.s.Counts(), p.s.Sources(), p.s.Leaves(), sizes} {
			for i := range l {
				l[i] = -7
			}
			_ = append(l, -8)
		}
		if !slices.Equal(store.Sizes(c), sizesOf(c)) {
			t.Errorf("Sizes are %v", store.Sizes(c))
		}
		counts, sources, leaves := p.s.Counts(), p.s.Sources(), p.s.Leaves()
		were := [][]int{slices.Clone(counts), slices.Clone(sources), slices.Clone(leaves)}
		p.check(t, wild(c, 5, &by))
		p.checkState(t)
		for i, l := range [][]int{counts, sources, leaves} {
			if !slices.Equal(l, were[i]) {
				t.Errorf("list %d, that was told, changed behind it", i)
			}
		}
	}
}

// crowd puts blocks that are all sent to leaf 0 of one level, and to leaves of their own elsewhere, and tells behind which one the store is over (none: -1).
func crowd(t *testing.T, c store.Config, h, step, many int) (int, pair) {
	t.Helper()
	var words []uint64
	for i := range many {
		for g := c.Levels - 1; g >= 0; g-- {
			leaf := uint64(i*step) >> (2 * g)
			if g == h {
				leaf = 0
			}
			words = append(words, leaf, leaf)
		}
	}
	p := made(t, c, words)
	over := -1
	for i := range many {
		p.check(t, ask{level.Put, uint64(i * step), data(i)})
		p.checkState(t)
		if over < 0 && p.s.Over() {
			over = i
		}
		if p.s.Over() != (over >= 0) {
			t.Errorf("%v: over %v behind %d, over behind %d", c, p.s.Over(), i, over)
		}
	}
	return over, p
}

func TestABlockThatIsLostOnALevel(t *testing.T) {
	for _, x := range []struct {
		c             store.Config
		h, step, over int
	}{
		// A way of depth 3 and a stash of one hold 5 blocks of 8.
		{store.Config{Blocks: 8, Slots: 1, Stash: 1, Levels: 1}, 0, 1, 5},
		{store.Config{Blocks: 8, Slots: 1, Stash: 2, Levels: 2}, 0, 1, 6},
		{store.Config{Blocks: 8, Slots: 1, Stash: 4, Levels: 3}, 0, 1, -1},
		{store.Config{Blocks: 32, Slots: 1, Stash: 1, Levels: 2}, 1, 4, 5},
		{store.Config{Blocks: 32, Slots: 1, Stash: 1, Levels: 3}, 1, 4, 5},
		{store.Config{Blocks: 32, Slots: 1, Stash: 4, Levels: 3}, 1, 4, -1},
		{store.Config{Blocks: 128, Slots: 1, Stash: 1, Levels: 3}, 2, 16, 5},
		{store.Config{Blocks: 128, Slots: 1, Stash: 2, Levels: 4}, 2, 16, 6},
		{store.Config{Blocks: 512, Slots: 1, Stash: 1, Levels: 4}, 3, 64, 5},
		{store.Config{Blocks: 512, Slots: 1, Stash: 4, Levels: 4}, 3, 64, -1},
	} {
		over, p := crowd(t, x.c, x.h, x.step, 8)
		if over != x.over {
			t.Errorf("%v: over behind %d, not %d", x.c, over, x.over)
		}
		for h, l := range p.w.levels {
			if l.Over() != (x.over >= 0 && h == x.h) {
				t.Errorf("%v: level %d is over: %v", x.c, h, l.Over())
			}
		}
		// From then on, whatever is asked.
		for i := range 8 {
			p.check(t, ask{level.Drop, uint64(i * x.step), data(i)})
			if p.s.Over() != (x.over >= 0) {
				t.Errorf("%v: over %v behind a Drop", x.c, p.s.Over())
			}
		}
		p.checkState(t)
	}
}

func TestCounts(t *testing.T) {
	by := chance(3)
	p := made(t, store.Config{Blocks: 64, Slots: 2, Stash: 9, Levels: 4}, by.words(200))
	for i, x := range []struct {
		op   int
		id   uint64
		want []int
	}{
		{level.Look, 5, []int{0, 1, 1, 1}}, {level.Drop, 5, []int{0, 1, 1, 1}}, {level.Put, 5, []int{1, 1, 1, 1}}, {level.Put, 5, []int{1, 1, 1, 1}}, {level.Drop, 5, []int{1, 1, 1, 1}},
		{level.Put, 5, []int{1, 1, 1, 1}}, {level.Put, 6, []int{2, 1, 1, 1}}, {level.Look, 8, []int{2, 2, 1, 1}}, {level.Look, 15, []int{2, 3, 1, 1}}, {level.Drop, 16, []int{2, 4, 2, 1}},
		{level.Put, 63, []int{3, 5, 3, 1}}, {level.Look, 47, []int{3, 6, 4, 1}}, {level.Look, 47, []int{3, 6, 4, 1}}, {level.Put, 0, []int{4, 7, 4, 1}}, {level.Part, 30, []int{4, 7, 4, 1}}, {level.Put, 64, []int{4, 7, 4, 1}},
	} {
		p.s.Access(x.op, x.id, data(i))
		if got := p.s.Counts(); !slices.Equal(got, x.want) {
			t.Errorf("%d: counts %v, not %v", i, got, x.want)
		}
	}
}

// R4.

func TestWhatWasPutLastIsToldUntilTheStoreIsOver(t *testing.T) {
	for i, c := range someConfigs() {
		for _, ids := range []int{1, 3, 10, 1024} {
			by := chance(1000*i + ids)
			p := made(t, c, by.words(240*2*c.Levels))
			have := map[uint64]api.Data{}
			// Also of the access that loses a block: what is told is of ahead of that, if it was lost on level 0.
			for range 120 {
				a := wild(c, ids, &by)
				want, is := have[a.id]
				got, there := p.s.Access(a.op, a.id, a.d)
				if p.s.Over() {
					break
				}
				if got != want || there != is {
					t.Fatalf("%v: %+v tells %x, %v, not %x, %v", c, a, got, there, want, is)
				}
				switch a.op {
				case level.Put:
					have[a.id] = a.d
				case level.Drop:
					delete(have, a.id)
				}
			}
		}
	}
}

// Behind a block that was lost, and behind the end of the tape, too.
func TestEachWordGivesOneWay(t *testing.T) {
	for i, c := range someConfigs() {
		by := chance(i)
		rounds := 150
		words := by.words(rounds*2*c.Levels - 7)
		p := made(t, c, words)
		for range rounds {
			a := wild(c, 50, &by)
			p.s.Access(a.op, a.id, a.d)
		}
		leaves, sources := p.s.Leaves(), p.s.Sources()
		if len(leaves) != rounds*c.Levels || len(sources) != len(leaves) {
			t.Fatalf("%v: %d leaves, %d sources", c, len(leaves), len(sources))
		}
		seen := map[int]bool{}
		for i, source := range sources {
			if source < 0 || source >= (i/c.Levels+1)*2*c.Levels || seen[source] {
				t.Fatalf("%v: way %d is of word %d: again %v", c, i, source, seen[source])
			}
			seen[source] = true
			n := uint64(0)
			if source < len(words) {
				n = words[source]
			}
			if h := c.Levels - 1 - i%c.Levels; leaves[i] != int(n%uint64(blocksOf(c.Blocks)[h])) {
				t.Errorf("%v: way %d is to leaf %d, word %d is %x", c, i, leaves[i], source, n)
			}
			// A level's words are its own.
			if source/2%c.Levels != i%c.Levels {
				t.Errorf("%v: way %d is of word %d, another level's", c, i, source)
			}
		}
	}
}

func TestEventsHangOnTheWaysAlone(t *testing.T) {
	for i, c := range someConfigs() {
		const rounds = 30
		by := chance(i + 50)
		one := made(t, c, by.words(rounds*2*c.Levels))
		for range rounds {
			a := wild(c, 20, &by)
			one.s.Access(a.op, a.id, a.d)
		}
		leaves := one.s.Leaves()
		// Another one, that is asked otherwise, goes the same ways: each is a word of its own, on which it can be laid.
		asks, words, k := make([]ask, rounds), make([]uint64, rounds*2*c.Levels), newKnower(c)
		for turn := range asks {
			asks[turn] = wild(c, c.Stash, &by)
			asks[turn].id %= uint64(c.Stash)
			for j, source := range k.access(asks[turn].id) {
				words[source] = uint64(leaves[turn*c.Levels+j])
			}
		}
		other := made(t, c, words)
		for _, a := range asks {
			other.s.Access(a.op, a.id, a.d)
		}
		if !slices.Equal(other.s.Leaves(), leaves) {
			t.Errorf("%v: the ways are not the same", c)
		}
		if !slices.Equal(one.m.Trace(), other.m.Trace()) || !slices.Equal(one.m.Trace(), store.Events(0, c, leaves)) {
			t.Errorf("%v: the ways are the same, the traces are not", c)
		}
	}
}

// P4.
func TestTheSameAsksMakeTheSame(t *testing.T) {
	c := store.Config{Blocks: 64, Slots: 1, Stash: 2, Levels: 3}
	by := chance(6)
	words := by.words(100)
	one, other := made(t, c, words), made(t, c, words)
	for range 60 {
		a := wild(c, 30, &by)
		d, there := one.s.Access(a.op, a.id, a.d)
		if e, is := other.s.Access(a.op, a.id, a.d); d != e || there != is {
			t.Errorf("%+v tells %x, %v; %x, %v", a, d, there, e, is)
		}
	}
	for region := range sizesOf(c) {
		if !slices.Equal(cellsOf(one.m, region), cellsOf(other.m, region)) {
			t.Errorf("region %d is not the same", region)
		}
	}
	if !slices.Equal(one.s.Leaves(), other.s.Leaves()) || !slices.Equal(one.s.Sources(), other.s.Sources()) || !slices.Equal(one.s.Counts(), other.s.Counts()) || one.s.Over() != other.s.Over() {
		t.Error("leaves, sources, counts, or over, are not the same")
	}
}

// What a store knows of blocks stands in its memory, and nowhere else.
func TestWhereBlocksAreIsWhatTheCellsSay(t *testing.T) {
	c := store.Config{Blocks: 8, Slots: 1, Stash: 2, Levels: 2}
	p := made(t, c, []uint64{1, 0, 5, 2, 0, 1, 4, 7, 1, 0, 3, 6})
	p.m.Write(0, 1, api.Cell{2, 77})
	p.m.Write(4, 2, api.Cell{1, 1, 1, 0, 0, 4, 88})
	p.m.Write(1, 10, api.Cell{1, 5, 3, 9, 8, 7})
	checkTold(t, p.s, ask{level.Look, 5, data(1)}, api.Data{9, 8, 7}, true)
	if !slices.Equal(p.s.Leaves(), []int{1, 3}) || !slices.Equal(p.s.Sources(), []int{77, 88}) {
		t.Errorf("ways %v of %v", p.s.Leaves(), p.s.Sources())
	}
	for region := range sizesOf(c) {
		for at := range p.m.Size(region) {
			p.m.Write(region, at, api.Cell{})
		}
	}
	checkTold(t, p.s, ask{level.Look, 5, data(1)}, api.Data{}, false)
	if !slices.Equal(p.s.Leaves()[2:], []int{1, 7}) || !slices.Equal(p.s.Sources()[2:], []int{5, 7}) {
		t.Errorf("ways %v of %v", p.s.Leaves(), p.s.Sources())
	}
}

// P1: what no store wrote ends, too, and does not panic.
func TestCellsThatNoStoreMakes(t *testing.T) {
	by := chance(4)
	edges := []uint64{0, 1, 2, 3, 4, 5, 8, 9, 1 << 31, 1 << 32, 1 << 63, 1<<63 - 1, 1<<63 + 1, greatest - 1, greatest}
	for _, c := range someConfigs()[:12] {
		for range 10 {
			p := made(t, c, by.words(40))
			for region := range sizesOf(c) {
				for at := range p.m.Size(region) {
					var cell api.Cell
					for i := range cell {
						cell[i] = edges[by.below(len(edges))]
					}
					p.m.Write(region, at, cell)
				}
			}
			for range 4 {
				a := wild(c, 9, &by)
				p.s.Access(a.op, a.id, a.d)
				p.s.Over()
			}
			if len(p.s.Counts()) != c.Levels || len(p.s.Sources()) != 4*c.Levels || len(p.s.Leaves()) != 4*c.Levels || p.t.Used() != 8*c.Levels {
				t.Errorf("%v: counts %v, sources %v, leaves %v, %d words", c, p.s.Counts(), p.s.Sources(), p.s.Leaves(), p.t.Used())
			}
		}
	}
}

func TestASpareCellIsNotLookedAt(t *testing.T) {
	for _, c := range someConfigs() {
		just := sizesOf(c)
		sizes := []int{7, just[0]}
		for i, n := range just[1:] {
			sizes = append(sizes, n+1+i%5)
		}
		by := chance(3)
		p := on(t, memory(t, append(sizes, 5)...), 1, c, by.words(50))
		for range 12 {
			p.check(t, wild(c, 9, &by))
			p.checkState(t)
		}
		for _, e := range p.m.Trace() {
			if e.Write && (e.Region == 0 || e.Region == len(sizes)) {
				t.Errorf("%v: %v is of another region", c, e)
			}
		}
	}
}

func TestTwoStoresInOneMemory(t *testing.T) {
	for _, c := range []store.Config{{Blocks: 8, Slots: 1, Stash: 3, Levels: 2}, {Blocks: 1, Slots: 1, Stash: 1, Levels: 1}, {Blocks: 32, Slots: 2, Stash: 6, Levels: 2}} {
		other := store.Config{Blocks: 8, Slots: 2, Stash: 2, Levels: 2}
		m := memory(t, slices.Concat(sizesOf(c), sizesOf(other))...)
		by := chance(c.Blocks)
		pairs := []pair{on(t, m, 0, c, by.words(300)), on(t, m, len(sizesOf(c)), other, by.words(100))}
		for range 60 {
			at := by.below(2)
			pairs[at].check(t, wild(pairs[at].w.c, 6, &by))
			// The other one stays as it is, and what it tells too.
			for _, p := range pairs {
				p.checkState(t)
			}
		}
		if slices.Equal(pairs[0].s.Sources(), pairs[1].s.Sources()) {
			t.Errorf("%v: both have the same sources", c)
		}
	}
}

// Two stores may read one tape: each word is taken by one of them.
func TestTwoStoresOfOneTape(t *testing.T) {
	c := store.Config{Blocks: 8, Slots: 2, Stash: 4, Levels: 2}
	by := chance(2)
	x := tape.New(by.words(80))
	m := memory(t, slices.Concat(sizesOf(c), sizesOf(c))...)
	one, _ := store.New(m, 0, c, x)
	other, _ := store.New(m, 7, c, x)
	for i := range 10 {
		checkTold(t, one, ask{level.Put, uint64(i % 8), data(i)}, oldData(i), i >= 8)
		checkTold(t, other, ask{level.Look, uint64(i % 8), data(i)}, api.Data{}, false)
	}
	seen := map[int]bool{}
	for _, source := range append(one.Sources(), other.Sources()...) {
		if seen[source] {
			t.Errorf("word %d gave two ways", source)
		}
		seen[source] = true
	}
	if x.Used() != 80 || x.Short() {
		t.Errorf("%d words were taken", x.Used())
	}
}

// oldData is what the i-th Put of eight blocks, one behind the other, finds.
func oldData(i int) api.Data {
	if i < 8 {
		return api.Data{}
	}
	return data(i - 8)
}

package level_test

import (
	"math"
	"slices"
	"testing"

	"shellgame/api"
	"shellgame/level"
	"shellgame/mem"
)

// ints are edges of each number that a config has, of other kinds of int, and of an int.
func ints() []int {
	return []int{math.MinInt, math.MinInt + 1, -1 << 32, -1024, -2, -1, 0, 1, 2, 3, 4, 5, 7, 8, 9, 16, 63, 64, 65, 128, 255, 256, 511, 512, 513, 1023, 1024, 1025, 2048, 4096, 1 << 16, 1 << 32, 1<<32 + 1, 1<<32 + 8, 1 << 62, math.MaxInt - 1, math.MaxInt}
}

// rightLeaves are all that are right, written out.
func rightLeaves() []int { return []int{1, 2, 4, 8, 16, 32, 64, 128, 256, 512, 1024} }

func isRight(c level.Config) bool {
	return slices.Contains(rightLeaves(), c.Leaves) && 1 <= c.Slots && c.Slots <= 8 && 1 <= c.Stash && c.Stash <= 64
}

func wrongConfigs() []level.Config {
	var l []level.Config
	for _, leaves := range ints() {
		for _, slots := range ints() {
			for _, stash := range ints() {
				if c := (level.Config{Leaves: leaves, Slots: slots, Stash: stash}); !isRight(c) {
					l = append(l, c)
				}
			}
		}
	}
	return l
}

// someConfigs are right ones that fit in a memory.
func someConfigs() []level.Config {
	return []level.Config{
		{Leaves: 1, Slots: 1, Stash: 1}, {Leaves: 1, Slots: 1, Stash: 2}, {Leaves: 1, Slots: 1, Stash: 64}, {Leaves: 1, Slots: 8, Stash: 1}, {Leaves: 1, Slots: 6, Stash: 1},
		{Leaves: 2, Slots: 1, Stash: 1}, {Leaves: 2, Slots: 1, Stash: 2}, {Leaves: 2, Slots: 2, Stash: 3}, {Leaves: 4, Slots: 1, Stash: 1}, {Leaves: 4, Slots: 1, Stash: 3},
		{Leaves: 4, Slots: 2, Stash: 1}, {Leaves: 4, Slots: 2, Stash: 3}, {Leaves: 8, Slots: 1, Stash: 1}, {Leaves: 8, Slots: 1, Stash: 3}, {Leaves: 8, Slots: 4, Stash: 5},
		{Leaves: 16, Slots: 2, Stash: 6}, {Leaves: 64, Slots: 1, Stash: 4}, {Leaves: 64, Slots: 4, Stash: 20},
	}
}

// greatConfigs are right ones at the edges of what a memory holds: trees, stashes, tables.
func greatConfigs() []level.Config {
	return []level.Config{
		{Leaves: 1024, Slots: 1, Stash: 1}, {Leaves: 1024, Slots: 2, Stash: 64}, {Leaves: 512, Slots: 4, Stash: 3},
		{Leaves: 256, Slots: 8, Stash: 54}, {Leaves: 256, Slots: 8, Stash: 55}, {Leaves: 256, Slots: 8, Stash: 56}, {Leaves: 256, Slots: 8, Stash: 64},
	}
}

// L1.

func TestRightAndSizesOfEachRightConfig(t *testing.T) {
	for _, leaves := range rightLeaves() {
		for slots := 1; slots <= 8; slots++ {
			for stash := 1; stash <= 64; stash++ {
				c := level.Config{Leaves: leaves, Slots: slots, Stash: stash}
				if !level.Right(c) {
					t.Errorf("%v is not right", c)
				}
				tree, kept, table := level.Sizes(c)
				if tree != slots*(2*leaves-1) || kept != stash || table != tableOf(c) {
					t.Errorf("Sizes(%v) = %d, %d, %d", c, tree, kept, table)
				}
			}
		}
	}
}

func TestWrongConfigs(t *testing.T) {
	for _, c := range wrongConfigs() {
		if level.Right(c) {
			t.Errorf("%v is right", c)
		}
		if tree, stash, table := level.Sizes(c); tree != 0 || stash != 0 || table != 0 {
			t.Errorf("Sizes(%v) = %d, %d, %d", c, tree, stash, table)
		}
	}
}

func TestSizesWrittenOut(t *testing.T) {
	for _, c := range []struct {
		c                  level.Config
		tree, stash, table int
	}{
		{level.Config{Leaves: 1, Slots: 1, Stash: 1}, 1, 1, 4}, {level.Config{Leaves: 1, Slots: 1, Stash: 2}, 1, 2, 4}, {level.Config{Leaves: 1, Slots: 1, Stash: 3}, 1, 3, 8},
		{level.Config{Leaves: 1, Slots: 8, Stash: 64}, 8, 64, 128}, {level.Config{Leaves: 2, Slots: 1, Stash: 1}, 3, 1, 4}, {level.Config{Leaves: 2, Slots: 3, Stash: 1}, 9, 1, 8},
		{level.Config{Leaves: 2, Slots: 3, Stash: 2}, 9, 2, 16}, {level.Config{Leaves: 512, Slots: 1, Stash: 5}, 1023, 5, 16}, {level.Config{Leaves: 512, Slots: 1, Stash: 6}, 1023, 6, 32},
		{level.Config{Leaves: 1024, Slots: 1, Stash: 1}, 2047, 1, 16}, {level.Config{Leaves: 1024, Slots: 8, Stash: 64}, 16376, 64, 256},
		{level.Config{}, 0, 0, 0}, {level.Config{Leaves: 3, Slots: 1, Stash: 1}, 0, 0, 0}, {level.Config{Leaves: 2048, Slots: 1, Stash: 1}, 0, 0, 0},
		{level.Config{Leaves: 1, Slots: 9, Stash: 1}, 0, 0, 0}, {level.Config{Leaves: 1, Slots: 1, Stash: 65}, 0, 0, 0},
	} {
		tree, stash, table := level.Sizes(c.c)
		if tree != c.tree || stash != c.stash || table != c.table || level.Right(c.c) != (c.tree > 0) {
			t.Errorf("Sizes(%v) = %d, %d, %d; Right %v", c.c, tree, stash, table, level.Right(c.c))
		}
	}
}

// checkNew asks for a level or ErrArg, and that nothing is to be seen of either.
func checkNew(t *testing.T, m *mem.Memory, first int, c level.Config, want api.Errno) {
	t.Helper()
	l, e := level.New(m, first, c)
	if e != want || (l != nil) != (want == api.OK) {
		t.Errorf("New(m, %d, %v) = %v, %v, not %v", first, c, l != nil, e, want)
	}
	if l != nil && (l.Over() || l.Blocks() != 0) {
		t.Errorf("New(m, %d, %v): over %v, %d blocks", first, c, l.Over(), l.Blocks())
	}
	if m.Many() != 0 || m.Fault() {
		t.Errorf("New(m, %d, %v): %d events, fault %v", first, c, m.Many(), m.Fault())
	}
}

func TestNewByTheCellsThatThereAre(t *testing.T) {
	for _, c := range append(someConfigs(), greatConfigs()...) {
		tree, stash, table := level.Sizes(c)
		for _, first := range []int{0, 1, 2, 3, 12, 13} {
			// Those ahead are as great as any that is meant.
			sizes := append(slices.Repeat([]int{max(tree, table)}, first), tree, stash, table)
			checkNew(t, memory(t, sizes...), first, c, api.OK)
			checkNew(t, memory(t, slices.Concat(sizes, slices.Repeat([]int{1}, mem.MaxRegions-len(sizes)))...), first, c, api.OK)
			for region := first; region < len(sizes); region++ {
				more, less := slices.Clone(sizes), slices.Clone(sizes)
				more[region]++
				checkNew(t, memory(t, more...), first, c, api.OK)
				less[region]--
				// A region has one cell at least.
				if less[region] > 0 {
					checkNew(t, memory(t, less...), first, c, api.ErrArg)
				}
			}
		}
	}
}

func TestNewWithRegionsThatThereAreNot(t *testing.T) {
	for _, c := range append(someConfigs(), greatConfigs()...) {
		for _, regions := range []int{1, 2, 3, 4, 5, mem.MaxRegions} {
			m := memory(t, slices.Repeat([]int{mem.MaxCells}, regions)...)
			for first := range regions - 2 {
				checkNew(t, m, first, c, api.OK)
			}
			for _, first := range []int{max(regions-2, 0), regions - 1, regions, regions + 1, 14, 15, 16, 17, 1 << 16, 1 << 32, 1 << 62, math.MaxInt - 2, math.MaxInt - 1, math.MaxInt, -1, -2, -3, -16, -1 << 32, math.MinInt + 1, math.MinInt} {
				checkNew(t, m, first, c, api.ErrArg)
			}
		}
	}
}

func TestNewOfConfigsThatAreNotRight(t *testing.T) {
	m := memory(t, slices.Repeat([]int{mem.MaxCells}, mem.MaxRegions)...)
	for _, c := range wrongConfigs() {
		checkNew(t, m, 0, c, api.ErrArg)
	}
	for _, first := range []int{-1, 1, 13, 14, math.MinInt, math.MaxInt} {
		checkNew(t, m, first, level.Config{}, api.ErrArg)
		checkNew(t, m, first, level.Config{Leaves: 3, Slots: 1, Stash: 1}, api.ErrArg)
	}
	// Right, but no region is so great.
	for _, c := range []level.Config{{Leaves: 1024, Slots: 3, Stash: 1}, {Leaves: 1024, Slots: 8, Stash: 64}, {Leaves: 512, Slots: 5, Stash: 1}} {
		checkNew(t, m, 0, c, api.ErrArg)
	}
}

// L2.

func TestExampleOfTheChapter(t *testing.T) {
	d, none := data(1), api.Data{}
	p := made(t, level.Config{Leaves: 1, Slots: 1, Stash: 1})
	checkTold(t, p.l, ask{op: level.Put, id: 7, d: d}, none, false)
	checkTold(t, p.l, ask{op: level.Look, id: 7}, d, true)
	checkTold(t, p.l, ask{op: level.Drop, id: 7}, d, true)
	checkTold(t, p.l, ask{op: level.Look, id: 7}, none, false)
}

func TestWhatIsTold(t *testing.T) {
	c := level.Config{Leaves: 4, Slots: 2, Stash: 3}
	d, e, none := data(1), data(2), api.Data{}
	part := d
	part[4], part[5] = e[0], e[1]
	p := made(t, c)
	for _, x := range []struct {
		a     ask
		want  api.Data
		there bool
	}{
		{ask{level.Look, 5, 0, e, 0, 1}, none, false}, {ask{level.Look, 5, 0, e, 1, 2}, none, false},
		{ask{level.Put, 5, 0, d, 2, 3}, none, false}, {ask{level.Look, 5, 0, e, 3, 0}, d, true}, {ask{level.Look, 5, 3, none, 0, 0}, d, true},
		{ask{level.Put, 5, 0, e, 0, 2}, d, true}, {ask{level.Put, 5, 0, e, 2, 2}, e, true}, {ask{level.Put, 5, 0, d, 2, 1}, e, true},
		{ask{level.Part, 5, 4, e, 1, 3}, d, true}, {ask{level.Look, 5, 4, d, 3, 3}, part, true},
		{ask{level.Drop, 6, 0, d, 0, 0}, none, false}, {ask{level.Look, 6, 0, d, 0, 0}, none, false},
		{ask{level.Part, 6, 6, e, 1, 1}, none, false}, {ask{level.Look, 6, 0, d, 1, 2}, api.Data{6: e[0], 7: e[1]}, true},
		{ask{level.Part, 6, 0, d, 2, 2}, api.Data{6: e[0], 7: e[1]}, true}, {ask{level.Look, 6, 0, d, 2, 2}, api.Data{0: d[0], 1: d[1], 6: e[0], 7: e[1]}, true},
		{ask{level.Drop, 5, 0, e, 3, 0}, part, true}, {ask{level.Look, 5, 0, e, 0, 0}, none, false}, {ask{level.Drop, 5, 0, e, 0, 0}, none, false},
		{ask{level.Put, 7, 0, none, 0, 0}, none, false}, {ask{level.Look, 7, 0, d, 0, 0}, none, true},
	} {
		checkTold(t, p.l, x.a, x.want, x.there)
	}
}

func TestPartOfEachTwoWords(t *testing.T) {
	d, e := data(3), data(4)
	for at := 0; at <= 6; at++ {
		p := made(t, level.Config{Leaves: 2, Slots: 2, Stash: 2})
		fresh, was := api.Data{}, d
		fresh[at], fresh[at+1] = e[0], e[1]
		was[at], was[at+1] = e[0], e[1]
		checkTold(t, p.l, ask{op: level.Part, id: 1, at: at, d: e}, api.Data{}, false)
		checkTold(t, p.l, ask{op: level.Look, id: 1}, fresh, true)
		checkTold(t, p.l, ask{op: level.Put, id: 1, d: d}, fresh, true)
		checkTold(t, p.l, ask{op: level.Part, id: 1, at: at, d: e}, d, true)
		checkTold(t, p.l, ask{op: level.Look, id: 1}, was, true)
	}
}

func TestIdsAtTheEdges(t *testing.T) {
	ids := []uint64{0, 1, 2, 1 << 16, lastId - 1, lastId}
	for _, c := range []level.Config{{Leaves: 1, Slots: 6, Stash: 1}, {Leaves: 4, Slots: 2, Stash: 2}} {
		p := made(t, c)
		for _, id := range ids {
			// Id 0 is not taken for a cell of noughts.
			for _, op := range []int{level.Look, level.Drop, level.Look} {
				p.check(t, ask{op: op, id: id, d: data(9)})
			}
		}
		for i, id := range ids {
			p.check(t, ask{op: level.Put, id: id, d: data(i)})
		}
		for i, id := range ids {
			checkTold(t, p.l, ask{op: level.Look, id: id}, data(i), true)
			p.w.access(ask{op: level.Look, id: id})
		}
		for _, id := range ids {
			p.check(t, ask{op: level.Drop, id: id})
			p.check(t, ask{op: level.Part, id: id, at: 3, d: data(7)})
		}
	}
}

func TestAtMeansNothingButForPart(t *testing.T) {
	for _, at := range []int{-1, 7, 8, 11, 12, 1 << 32, math.MinInt, math.MaxInt} {
		p := made(t, level.Config{Leaves: 4, Slots: 1, Stash: 3})
		for _, a := range []ask{
			{level.Look, 3, at, data(1), 0, 1}, {level.Put, 3, at, data(2), 0, 1}, {level.Look, 3, at, data(3), 1, 2},
			{level.Put, 4, at, data(4), 2, 3}, {level.Drop, 3, at, data(5), 2, 0}, {level.Drop, 3, at, data(6), 2, 0}, {level.Look, 4, at, data(7), 3, 3},
		} {
			p.check(t, a)
		}
	}
}

// wrongAsks are such that have one thing that is not right, of each op, and a few that have several.
func wrongAsks(c level.Config) []ask {
	var l []ask
	d := data(5)
	for _, op := range []int{-1, 4, 5, -2, 256, 257, 1 << 32, 1<<32 + 1, math.MinInt, math.MinInt + 1, math.MaxInt} {
		for _, at := range []int{0, -1, 7} {
			l = append(l, ask{op, 3, at, d, 0, 0}, ask{op, 77, at, d, 0, 0})
		}
	}
	for op := level.Look; op <= level.Drop; op++ {
		for _, leaf := range []int{-1, -2, -c.Leaves, c.Leaves, c.Leaves + 1, 2 * c.Leaves, 1024, 1 << 32, 1<<32 + 1, math.MinInt, math.MaxInt} {
			for _, id := range []uint64{3, 77} {
				l = append(l, ask{op, id, 0, d, leaf, 0}, ask{op, id, 0, d, 0, leaf}, ask{op, id, 0, d, leaf, leaf}, ask{op, id, 0, d, c.Leaves - 1, leaf}, ask{op, id, 0, d, leaf, c.Leaves - 1})
			}
		}
		for _, id := range []uint64{lastId + 1, lastId + 3, 1 << 32, 1<<32 + 3, 1 << 33, 1 << 62, 1 << 63, 1<<63 + 3, greatest - 1, greatest} {
			l = append(l, ask{op, id, 0, d, 0, 0}, ask{op, id, 6, d, c.Leaves - 1, 0})
		}
	}
	for _, at := range []int{-1, 7, -2, -3, 8, 9, 12, 256, 1 << 32, 1<<32 + 1, math.MinInt, math.MinInt + 1, math.MaxInt - 1, math.MaxInt} {
		l = append(l, ask{level.Part, 3, at, d, 0, 0}, ask{level.Part, 77, at, d, 0, 0}, ask{level.Part, greatest, at, d, -1, -1})
	}
	return l
}

// The block that is meant is there, so that a wrong ask that is done is told, or seen.
func TestAsksThatAreNotRight(t *testing.T) {
	for _, c := range []level.Config{{Leaves: 1, Slots: 1, Stash: 1}, {Leaves: 4, Slots: 1, Stash: 3}, {Leaves: 16, Slots: 2, Stash: 6}} {
		p := made(t, c)
		p.check(t, ask{level.Put, 3, 0, data(1), 0, 0})
		for _, a := range wrongAsks(c) {
			many := p.m.Many()
			if got, there := call(p.l, a); got != (api.Data{}) || there || p.m.Many() != many {
				t.Errorf("%v: %+v tells %x, %v; %d events", c, a, got, there, p.m.Many()-many)
			}
			p.checkState(t, a)
		}
		p.check(t, ask{level.Look, 3, 0, data(2), 0, 0})
		p.check(t, ask{level.Part, 3, 6, data(2), 0, c.Leaves - 1})
		p.check(t, ask{level.Part, lastId, 0, data(2), c.Leaves - 1, c.Leaves - 1})
	}
}

func TestABlockThatDoesNotLieOnTheWay(t *testing.T) {
	c := level.Config{Leaves: 4, Slots: 1, Stash: 3}
	d, e, none := data(1), data(2), api.Data{}
	p := made(t, c)
	checkTold(t, p.l, ask{level.Put, 5, 0, d, 0, 0}, none, false)
	// It lies in leaf 0: no other way goes there.
	for _, leaf := range []int{1, 2, 3} {
		checkTold(t, p.l, ask{level.Look, 5, 0, e, leaf, leaf}, none, false)
		checkTold(t, p.l, ask{level.Drop, 5, 0, e, leaf, leaf}, none, false)
		checkTold(t, p.l, ask{level.Look, 5, 0, e, leaf, 0}, none, false)
	}
	checkTold(t, p.l, ask{level.Look, 5, 0, e, 0, 0}, d, true)
	// Put on another way there are two of it, each on its own.
	checkTold(t, p.l, ask{level.Put, 5, 0, e, 3, 3}, none, false)
	checkTold(t, p.l, ask{level.Look, 5, 0, none, 0, 0}, d, true)
	checkTold(t, p.l, ask{level.Look, 5, 0, none, 3, 3}, e, true)
	checkTold(t, p.l, ask{level.Part, 5, 2, d, 2, 2}, none, false)
	checkTold(t, p.l, ask{level.Look, 5, 0, none, 2, 2}, api.Data{2: d[0], 3: d[1]}, true)
	if p.l.Blocks() != 1 || p.l.Over() {
		t.Errorf("%d blocks, over %v", p.l.Blocks(), p.l.Over())
	}
}

// Blocks 5 come together on one way: an access of the lesser 3 drives one up from its leaf.
func TestOfSeveralCellsTheOneThatIsReadLast(t *testing.T) {
	c := level.Config{Leaves: 2, Slots: 1, Stash: 2}
	d, e, none := data(1), data(2), api.Data{}
	for op := level.Look; op <= level.Drop; op++ {
		p := made(t, c)
		p.check(t, ask{level.Put, 5, 0, d, 0, 0})
		p.check(t, ask{level.Put, 5, 0, e, 1, 1})
		p.check(t, ask{level.Put, 3, 0, data(3), 0, 0})
		if cells := cellsOf(p.m, 0); cells[0] != blockCell(5, 0, d) || cells[2] != blockCell(5, 1, e) {
			t.Fatalf("the tree is %x", cells)
		}
		// The root is read ahead of the leaf.
		checkTold(t, p.l, ask{op, 5, 0, data(4), 1, 1}, e, true)
		p.w.access(ask{op, 5, 0, data(4), 1, 1})
		p.check(t, ask{level.Drop, 5, 0, none, 1, 1})
		// Both are gone from that way, and there was no other one.
		checkTold(t, p.l, ask{level.Look, 5, 0, none, 1, 1}, none, false)
		checkTold(t, p.l, ask{level.Look, 5, 0, none, 0, 0}, none, false)
		checkTold(t, p.l, ask{level.Look, 3, 0, none, 0, 0}, data(3), true)
	}
}

func TestTheStashIsReadLast(t *testing.T) {
	c := level.Config{Leaves: 2, Slots: 1, Stash: 2}
	d, e, none := data(1), data(2), api.Data{}
	p := made(t, c)
	p.check(t, ask{level.Put, 5, 0, d, 0, 0})
	p.check(t, ask{level.Put, 5, 0, e, 1, 1})
	// 3 takes leaf 0, 4 the root: the 5 of leaf 0 goes to the stash.
	p.check(t, ask{level.Put, 3, 0, data(3), 0, 0})
	p.check(t, ask{level.Put, 4, 0, data(4), 0, 0})
	if got := p.m.Read(1, 0); got != blockCell(5, 0, d) {
		t.Fatalf("the stash has %x", got)
	}
	checkTold(t, p.l, ask{level.Look, 5, 0, none, 1, 1}, d, true)
	checkTold(t, p.l, ask{level.Look, 5, 0, none, 1, 1}, d, true)
	checkTold(t, p.l, ask{level.Drop, 5, 0, none, 1, 1}, d, true)
	checkTold(t, p.l, ask{level.Look, 5, 0, none, 1, 1}, none, false)
	checkTold(t, p.l, ask{level.Look, 5, 0, none, 0, 0}, none, false)
}

// L2 and L3.

func numbered(cells ...api.Cell) []api.Cell {
	l := slices.Clone(cells)
	for i := range l {
		l[i][11] = uint64(i)
	}
	return l
}

func TestCellsWrittenOut(t *testing.T) {
	c := level.Config{Leaves: 2, Slots: 1, Stash: 1}
	var none api.Cell
	d := api.Data{11, 12, 13, 14, 15, 16, 17, 18}
	b5, b5late := api.Cell{1, 5, 1, 11, 12, 13, 14, 15, 16, 17, 18, 0}, api.Cell{1, 5, 0, 11, 12, 13, 14, 15, 16, 17, 18, 0}
	b6, b4 := api.Cell{1, 6, 1, 21}, api.Cell{1, 4, 0, 0, 0, 0, 0, 0, 0, 11, 12, 0}
	b3 := api.Cell{1, 3, 1, 31}
	p := made(t, c)
	for i, x := range []struct {
		a                  ask
		tree, stash, table []api.Cell
		over               bool
		blocks             int
	}{
		{ask{level.Look, 5, 0, d, 0, 1}, []api.Cell{none, none, none}, []api.Cell{none}, numbered(none, none, none, none), false, 0},
		{ask{level.Put, 5, 0, d, 0, 1}, []api.Cell{b5, none, none}, []api.Cell{none}, numbered(b5, none, none, none), false, 1},
		{ask{level.Put, 6, 0, api.Data{21}, 1, 1}, []api.Cell{b6, none, b5}, []api.Cell{none}, numbered(b6, b5, none, none), false, 2},
		{ask{level.Part, 4, 6, d, 1, 0}, []api.Cell{b6, none, b5}, []api.Cell{b4}, numbered(b6, b5, b4, none), false, 3},
		{ask{level.Look, 9, 0, d, 0, 0}, []api.Cell{b6, b4, b5}, []api.Cell{none}, numbered(b6, b4, none, none), false, 3},
		{ask{level.Look, 5, 0, d, 1, 0}, []api.Cell{b5late, b4, b6}, []api.Cell{none}, numbered(b5late, b6, none, none), false, 3},
		{ask{level.Look, 5, 0, d, 0, 1}, []api.Cell{b5, b4, b6}, []api.Cell{none}, numbered(b5, b4, none, none), false, 3},
		{ask{level.Look, 4, 0, d, 0, 0}, []api.Cell{b5, b4, b6}, []api.Cell{none}, numbered(b5, b4, none, none), false, 3},
		// 3 goes deep, for it is less than 5 and 6; 5 goes to the root, 6 to the stash.
		{ask{level.Put, 3, 0, api.Data{31}, 1, 1}, []api.Cell{b5, b4, b3}, []api.Cell{b6}, numbered(b5, b3, b6, none), false, 4},
		// 4 goes to the stash: it may not lie in leaf 1; 6 is dealt ahead of it, but there is no room.
		{ask{level.Drop, 4, 0, d, 0, 0}, []api.Cell{b5, none, b3}, []api.Cell{b6}, numbered(b5, none, b6, none), false, 4},
		{ask{level.Part, 4, 6, d, 1, 0}, []api.Cell{b5, none, b3}, []api.Cell{b6}, numbered(b5, b3, b6, none), true, 4},
		{ask{level.Look, 4, 0, d, 0, 0}, []api.Cell{b5, none, b3}, []api.Cell{b6}, numbered(b5, none, b6, none), true, 4},
		{ask{level.Drop, 6, 0, d, 1, 1}, []api.Cell{b5, none, b3}, []api.Cell{none}, numbered(b5, b3, none, none), true, 4},
	} {
		call(p.l, x.a)
		if tree, stash, table := cellsOf(p.m, 0), cellsOf(p.m, 1), cellsOf(p.m, 2); !slices.Equal(tree, x.tree) || !slices.Equal(stash, x.stash) || !slices.Equal(table, x.table) {
			t.Errorf("%d: tree, stash, table are\n%d\n%d\n%d", i, tree, stash, table)
		}
		if p.l.Over() != x.over || p.l.Blocks() != x.blocks {
			t.Errorf("%d: over %v, %d blocks", i, p.l.Over(), p.l.Blocks())
		}
	}
}

// wild is any ask that is right; ids are few, so that many of them are met again, on any way.
func wild(c level.Config, ids int, by *chance) ask {
	a := ask{by.below(4), uint64(by.below(ids)), by.below(7), by.data(), by.below(c.Leaves), by.below(c.Leaves)}
	if by.below(8) == 0 {
		a.id = []uint64{0, lastId, lastId - 1}[by.below(3)]
	}
	if by.below(2) == 0 {
		a.op = level.Put
	}
	if by.below(3) == 0 {
		a.to = a.from
	}
	return a
}

// Blocks are put, and looked for, on ways on which they do not lie, so that there are several of one id: the cells are still what the chapter says.
func TestCellsBehindEachAccess(t *testing.T) {
	doubles, ties, lost := 0, 0, 0
	for _, c := range someConfigs() {
		for _, ids := range []int{2, 5, 3 * placesOf(c)} {
			by := chance(c.Leaves*100 + c.Slots*10 + ids)
			p := made(t, c)
			for range min(150, 3000/tableOf(c)) {
				p.check(t, wild(c, ids, &by))
			}
			doubles, ties, lost = doubles+p.w.doubles, ties+p.w.ties, lost+len(p.w.lost)
			if t.Failed() {
				return
			}
		}
	}
	if doubles < 50 || ties < 50 || lost < 500 {
		t.Errorf("too few: %d doubles, %d ties, %d lost", doubles, ties, lost)
	}
}

func TestCellsOfGreatLevels(t *testing.T) {
	for _, c := range greatConfigs() {
		by := chance(c.Leaves + c.Stash)
		p := made(t, c)
		for _, a := range []ask{
			{level.Put, lastId, 0, by.data(), 0, c.Leaves - 1}, {level.Put, 0, 0, by.data(), c.Leaves - 1, c.Leaves - 1},
			{level.Look, lastId, 0, by.data(), c.Leaves - 1, 0}, {level.Part, 0, 6, by.data(), c.Leaves - 1, 0},
			{level.Look, 0, 0, by.data(), 0, c.Leaves / 2}, {level.Drop, lastId, 0, by.data(), 0, 0},
		} {
			p.check(t, a)
		}
		for range 12 {
			p.check(t, wild(c, 200, &by))
		}
	}
}

// All blocks may lie at the root alone: what goes where hangs on the ids.
func TestAFullWay(t *testing.T) {
	for _, c := range []level.Config{{Leaves: 1, Slots: 8, Stash: 64}, {Leaves: 2, Slots: 2, Stash: 9}, {Leaves: 64, Slots: 1, Stash: 5}, {Leaves: 256, Slots: 8, Stash: 12}} {
		p := made(t, c)
		full := c.Slots + c.Stash
		for i := range full + 3 {
			id := uint64(i * 11 % (full + 3))
			a := ask{level.Put, id, 0, data(i), 0, c.Leaves - 1}
			p.check(t, a)
			if p.l.Over() != (i >= full) {
				t.Errorf("%v: %d blocks of a half: over %v", c, i+1, p.l.Over())
			}
		}
	}
}

func TestWhichOneIsLost(t *testing.T) {
	c := level.Config{Leaves: 1, Slots: 1, Stash: 1}
	p := made(t, c)
	look := func(id uint64, d api.Data, there bool) {
		t.Helper()
		checkTold(t, p.l, ask{op: level.Look, id: id}, d, there)
	}
	put := func(id uint64, over bool) {
		t.Helper()
		call(p.l, ask{op: level.Put, id: id, d: data(int(id))})
		if p.l.Over() != over {
			t.Errorf("put %d: over %v", id, p.l.Over())
		}
	}
	put(9, false)
	put(8, false)
	look(9, data(9), true)
	// Of the three, all of one Deep, the one of the greatest id goes, though it came first.
	put(7, true)
	look(9, api.Data{}, false)
	look(8, data(8), true)
	look(7, data(7), true)
	// The one that is put can be it, too.
	put(9, true)
	look(9, api.Data{}, false)
	look(8, data(8), true)
	// And the level goes on, as over as before.
	checkTold(t, p.l, ask{op: level.Drop, id: 8}, data(8), true)
	put(9, true)
	look(9, data(9), true)
	look(7, data(7), true)
	checkTold(t, p.l, ask{op: level.Part, id: 7, at: 2, d: data(3)}, data(7), true)
	for _, id := range []uint64{7, 9} {
		call(p.l, ask{op: level.Drop, id: id})
	}
	if !p.l.Over() || p.l.Blocks() != 3 {
		t.Errorf("over %v, %d blocks", p.l.Over(), p.l.Blocks())
	}
}

// The one that is lost is of the least Deep, whatever its id is; if it is one of a bucket, it is gone from there.
func TestTheHighestOneIsLost(t *testing.T) {
	c := level.Config{Leaves: 2, Slots: 1, Stash: 1}
	p := made(t, c)
	p.check(t, ask{level.Put, 0, 0, data(0), 0, 1})
	p.check(t, ask{level.Put, 9, 0, data(9), 0, 0})
	p.check(t, ask{level.Put, 8, 0, data(8), 0, 0})
	if p.l.Over() {
		t.Fatal("over with two levels and a stash of one, and three blocks")
	}
	p.check(t, ask{level.Put, 7, 0, data(7), 0, 0})
	if !p.l.Over() || !slices.Equal(p.w.lost, []uint64{0}) {
		t.Errorf("over %v, lost %d", p.l.Over(), p.w.lost)
	}
	checkTold(t, p.l, ask{level.Look, 0, 0, data(1), 1, 1}, api.Data{}, false)
	for id := uint64(7); id <= 9; id++ {
		checkTold(t, p.l, ask{level.Look, id, 0, data(1), 0, 0}, data(int(id)), true)
	}
}

// The blocks stand in the memory, and nowhere else.
func TestBlocksAreWhatTheCellsSay(t *testing.T) {
	c := level.Config{Leaves: 4, Slots: 2, Stash: 2}
	p := made(t, c)
	p.m.Write(0, 1*2+1, blockCell(5, 1, data(5)))
	p.m.Write(1, 1, blockCell(6, 3, data(6)))
	checkTold(t, p.l, ask{level.Look, 5, 0, data(1), 0, 1}, data(5), true)
	checkTold(t, p.l, ask{level.Look, 6, 0, data(1), 2, 3}, data(6), true)
	for region := range 2 {
		for at := range p.m.Size(region) {
			p.m.Write(region, at, api.Cell{})
		}
	}
	for leaf := range 4 {
		for id := uint64(5); id <= 6; id++ {
			checkTold(t, p.l, ask{level.Look, id, 0, data(1), leaf, leaf}, api.Data{}, false)
		}
	}
	if p.l.Blocks() != 0 {
		t.Errorf("%d blocks, none was put", p.l.Blocks())
	}
}

// What stands in the table from before does not count.
func TestTheTableIsWrittenWhole(t *testing.T) {
	c := level.Config{Leaves: 4, Slots: 2, Stash: 3}
	p := made(t, c)
	by := chance(8)
	for range 30 {
		for at := range p.m.Size(2) {
			p.m.Write(2, at, blockCell(uint64(at), at%4, data(at)))
		}
		p.check(t, wild(c, 5, &by))
	}
}

// P1: what is no block of a level ends, too, and does not panic.
func TestCellsThatNoLevelMakes(t *testing.T) {
	c := level.Config{Leaves: 4, Slots: 2, Stash: 3}
	by := chance(4)
	edges := []uint64{0, 1, 2, 3, 4, 5, lastId, 1 << 32, 1 << 62, 1<<62 + 3, 1 << 63, greatest - 1, greatest}
	for range 200 {
		p := made(t, c)
		for region := range 3 {
			for at := range p.m.Size(region) {
				var cell api.Cell
				for i := range cell {
					cell[i] = edges[by.below(len(edges))]
				}
				cell[0] = edges[by.below(3)]
				p.m.Write(region, at, cell)
			}
		}
		for range 5 {
			a := wild(c, 5, &by)
			many := p.m.Many()
			call(p.l, a)
			if !slices.Equal(p.m.Since(many), looksOf(0, c, a.from)) {
				t.Errorf("%+v looks otherwise", a)
			}
		}
	}
}

// L4.

func TestBlocksCountsIds(t *testing.T) {
	p := made(t, level.Config{Leaves: 4, Slots: 1, Stash: 2})
	for i, x := range []struct {
		op   int
		id   uint64
		many int
	}{
		{level.Look, 1, 0}, {level.Drop, 2, 0}, {level.Put, 3, 1}, {level.Put, 3, 1}, {level.Look, 3, 1}, {level.Part, 3, 1}, {level.Drop, 3, 1},
		{level.Put, 3, 1}, {level.Part, 4, 2}, {level.Part, 4, 2}, {level.Put, 4, 2}, {level.Drop, 4, 2}, {level.Look, 4, 2}, {level.Part, 4, 2},
		{level.Put, 0, 3}, {level.Drop, 0, 3}, {level.Part, 0, 3}, {level.Part, lastId, 4}, {level.Put, lastId, 4}, {level.Put, lastId + 1, 4}, {level.Part, greatest, 4},
		{level.Look, 1, 4}, {level.Drop, 1, 4}, {level.Put, 1, 5}, {level.Drop, 2, 5}, {level.Part, 2, 6},
	} {
		p.l.Access(x.op, x.id, 0, data(i), i%4, i%3)
		if got := p.l.Blocks(); got != x.many {
			t.Errorf("%d: %d blocks, not %d", i, got, x.many)
		}
	}
}

func TestBlocksThatWereLostCount(t *testing.T) {
	p := made(t, level.Config{Leaves: 1, Slots: 1, Stash: 1})
	for id := range uint64(200) {
		p.l.Access(level.Put, id*10_000_000, 0, data(1), 0, 0)
		if p.l.Blocks() != int(id)+1 || p.l.Over() != (id >= 2) {
			t.Errorf("%d blocks, over %v, behind %d", p.l.Blocks(), p.l.Over(), id+1)
		}
	}
	for id := range uint64(200) {
		p.l.Access(level.Part, id*10_000_000, 0, data(1), 0, 0)
	}
	if p.l.Blocks() != 200 {
		t.Errorf("%d blocks", p.l.Blocks())
	}
}

func TestEventsWrittenOut(t *testing.T) {
	e := func(region, at, write int) api.Event { return api.Event{Region: region, At: at, Write: write == 1} }
	pass := []api.Event{e(5, 0, 0), e(5, 0, 1), e(5, 1, 0), e(5, 1, 1), e(5, 2, 0), e(5, 2, 1), e(5, 3, 0), e(5, 3, 1)}
	var sorted []api.Event
	for _, p := range [][2]int{{0, 1}, {2, 3}, {0, 2}, {1, 3}, {0, 1}, {2, 3}} {
		sorted = append(sorted, e(5, p[0], 0), e(5, p[1], 0), e(5, p[0], 1), e(5, p[1], 1))
	}
	for leaf, at := range map[int]int{0: 1, 1: 2} {
		want := slices.Concat(
			[]api.Event{e(3, 0, 0), e(5, 0, 1), e(3, at, 0), e(5, 1, 1), e(4, 0, 0), e(5, 2, 1), e(5, 3, 1)},
			pass, sorted, pass, sorted,
			[]api.Event{e(5, 0, 0), e(3, 0, 1), e(5, 1, 0), e(3, at, 1), e(5, 2, 0), e(4, 0, 1)})
		if got := level.Events(3, level.Config{Leaves: 2, Slots: 1, Stash: 1}, leaf); !slices.Equal(got, want) {
			t.Errorf("Events of leaf %d are %v", leaf, got)
		}
	}
}

func TestEventsOfEachLeaf(t *testing.T) {
	for _, c := range someConfigs() {
		for leaf := range c.Leaves {
			for _, first := range []int{0, 1, 13, 14, 100, -1, -2, -3, 1 << 32, math.MinInt, math.MaxInt - 2, math.MaxInt - 1, math.MaxInt} {
				if !slices.Equal(level.Events(first, c, leaf), looksOf(first, c, leaf)) {
					t.Errorf("Events(%d, %v, %d) are others", first, c, leaf)
				}
			}
		}
	}
	// One that no memory holds is right, and has events.
	for _, c := range append(greatConfigs(), level.Config{Leaves: 1024, Slots: 8, Stash: 64}) {
		for _, leaf := range []int{0, 1, c.Leaves/2 - 1, c.Leaves / 2, c.Leaves - 2, c.Leaves - 1} {
			if !slices.Equal(level.Events(2, c, leaf), looksOf(2, c, leaf)) {
				t.Errorf("Events(2, %v, %d) are others", c, leaf)
			}
		}
	}
}

func TestEventsOfNothing(t *testing.T) {
	for _, c := range append(someConfigs(), greatConfigs()...) {
		for _, leaf := range []int{-1, -2, -c.Leaves, c.Leaves, c.Leaves + 1, 2 * c.Leaves, 1 << 32, 1<<32 + c.Leaves - 1, math.MinInt, math.MaxInt} {
			if got := level.Events(1, c, leaf); len(got) != 0 {
				t.Errorf("Events(1, %v, %d): %d", c, leaf, len(got))
			}
		}
	}
	for _, c := range wrongConfigs() {
		for _, leaf := range []int{0, 1, -1} {
			if got := level.Events(0, c, leaf); len(got) != 0 {
				t.Errorf("Events(0, %v, %d): %d", c, leaf, len(got))
			}
		}
	}
}

// P3.
func TestEventsAreNew(t *testing.T) {
	c := level.Config{Leaves: 4, Slots: 2, Stash: 3}
	want := looksOf(0, c, 2)
	clear(level.Events(0, c, 2))
	if !slices.Equal(level.Events(0, c, 2), want) {
		t.Error("Events hang on what was done with those that were told before")
	}
	p := made(t, c)
	clear(level.Events(0, c, 2))
	p.check(t, ask{level.Put, 1, 0, data(1), 2, 2})
}

func TestASpareCellIsNotLookedAt(t *testing.T) {
	for _, c := range someConfigs() {
		tree, stash, table := level.Sizes(c)
		p := on(t, memory(t, 7, tree+5, stash+6, 2*table+1, 3), 1, c)
		by := chance(3)
		for range 20 {
			p.check(t, wild(c, 9, &by))
		}
		if n := slices.IndexFunc(p.m.Trace(), func(e api.Event) bool {
			return e.Region == 0 || e.Region == 4
		}); n != -1 {
			t.Errorf("%v: event %d is of another region", c, n)
		}
	}
}

func TestTwoLevelsInOneMemory(t *testing.T) {
	for _, c := range []level.Config{{Leaves: 4, Slots: 1, Stash: 3}, {Leaves: 1, Slots: 1, Stash: 1}, {Leaves: 16, Slots: 2, Stash: 6}} {
		other := level.Config{Leaves: 8, Slots: 2, Stash: 2}
		var sizes []int
		for _, x := range []level.Config{c, other, c} {
			tree, stash, table := level.Sizes(x)
			sizes = append(sizes, tree, stash, table)
		}
		m := memory(t, sizes...)
		pairs := []pair{on(t, m, 0, c), on(t, m, 3, other), on(t, m, 6, c)}
		by := chance(c.Leaves)
		for range 120 {
			at := by.below(3)
			if at == 2 && by.below(3) > 0 {
				at = 1
			}
			pairs[at].check(t, wild(pairs[at].w.c, 6, &by))
			// The others stay as they are, their bits and numbers too.
			for _, p := range pairs {
				p.checkState(t, ask{})
			}
		}
	}
}

// L5.

// blockOf is a block that is there, and the leaf that it was given last.
type blockOf struct {
	d    api.Data
	leaf int
}

// player plays right asks, each on the way to the leaf that its block was given last, and knows what is to be told. In a crowd all are given one leaf.
type player struct {
	c     level.Config
	ids   int
	crowd bool
	by    chance
	have  map[uint64]blockOf
}

// rounds are fewer of a great table, so that the tests stay quick.
func (y *player) rounds() int { return min(200, 3000/tableOf(y.c)) }

func (y *player) next() (ask, api.Data, bool) {
	a := ask{y.by.below(4), uint64(y.by.below(y.ids)), y.by.below(7), y.by.data(), y.by.below(y.c.Leaves), y.by.below(y.c.Leaves)}
	if y.crowd {
		a.to = y.c.Leaves - 1
	}
	b, there := y.have[a.id]
	if there {
		a.from = b.leaf
	}
	now := blockOf{b.d, a.to}
	switch a.op {
	case level.Put:
		now.d = a.d
	case level.Part:
		now.d[a.at], now.d[a.at+1] = a.d[0], a.d[1]
	}
	if a.op == level.Drop {
		delete(y.have, a.id)
	} else if there || a.op != level.Look {
		y.have[a.id] = now
	}
	return a, b.d, there
}

// play asks until the level is over, and holds what is told against what is meant.
func (y *player) play(t *testing.T) pair {
	t.Helper()
	p := made(t, y.c)
	for range y.rounds() {
		a, want, there := y.next()
		// Also of the access that loses a block: what is told is of ahead of that.
		if got, is := call(p.l, a); got != want || is != there {
			t.Fatalf("%v: %+v tells %x, %v, not %x, %v", y.c, a, got, is, want, there)
		}
		if p.l.Over() {
			break
		}
	}
	return p
}

func TestWhatWasPutLastIsToldUntilTheLevelIsOver(t *testing.T) {
	for _, c := range someConfigs() {
		for _, ids := range []int{1, c.Stash + c.Slots, 2*c.Stash + c.Leaves, 3 * (c.Stash + c.Leaves)} {
			for seed := range 3 {
				y := &player{c, ids, seed == 2, chance(seed*1000 + ids), map[uint64]blockOf{}}
				y.play(t)
			}
		}
	}
}

func TestNoneIsLostWhileNoMoreThanStashWerePut(t *testing.T) {
	configs := append(someConfigs(), level.Config{Leaves: 2, Slots: 1, Stash: 5}, level.Config{Leaves: 32, Slots: 1, Stash: 12}, level.Config{Leaves: 4, Slots: 1, Stash: 40})
	for _, c := range configs {
		for seed := range 4 {
			y := &player{c, c.Stash, seed%2 == 1, chance(seed + 77), map[uint64]blockOf{}}
			if p := y.play(t); p.l.Over() || p.l.Blocks() > c.Stash {
				t.Errorf("%v: over with %d blocks", c, p.l.Blocks())
			}
		}
	}
}

func TestEventsHangOnFromAlone(t *testing.T) {
	for _, c := range someConfigs() {
		one, other := made(t, c), made(t, c)
		by := chance(c.Leaves + 5)
		for range 40 {
			// The other one may be over, or empty, and is asked something else.
			a, b := wild(c, 3, &by), wild(c, 100, &by)
			b.from = a.from
			from, behind := one.m.Many(), other.m.Many()
			call(one.l, a)
			call(other.l, b)
			if !slices.Equal(one.m.Since(from), other.m.Since(behind)) {
				t.Errorf("%v: %+v and %+v look otherwise", c, a, b)
			}
		}
		if !slices.Equal(one.m.Trace(), other.m.Trace()) {
			t.Errorf("%v: the ways are the same, the traces are not", c)
		}
	}
}

// P4.
func TestTheSameAsksMakeTheSame(t *testing.T) {
	c := level.Config{Leaves: 8, Slots: 2, Stash: 3}
	one, other := made(t, c), made(t, c)
	by := chance(6)
	for range 100 {
		a := wild(c, 30, &by)
		d, there := call(one.l, a)
		if e, is := call(other.l, a); d != e || there != is {
			t.Errorf("%+v tells %x, %v; %x, %v", a, d, there, e, is)
		}
	}
	for region := range 3 {
		if !slices.Equal(cellsOf(one.m, region), cellsOf(other.m, region)) {
			t.Errorf("region %d is not the same", region)
		}
	}
	if one.l.Over() != other.l.Over() || one.l.Blocks() != other.l.Blocks() {
		t.Error("over, or blocks, are not the same")
	}
}

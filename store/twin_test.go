package store_test

import (
	"math"
	"slices"
	"testing"

	"shellgame/api"
	"shellgame/level"
	"shellgame/mem"
	"shellgame/store"
	"shellgame/tape"
)

const greatest = math.MaxUint64

// data makes data whose words differ from each other, from those of every other n, and from 0.
func data(n int) api.Data {
	var d api.Data
	for i := range d {
		d[i] = uint64(n*api.Payload+i+1) * 0x9e3779b97f4a7c15
	}
	return d
}

// chance makes numbers below a bound, without a pattern, the same ones in each run.
type chance uint64

func (c *chance) below(n int) int {
	*c = *c*6364136223846793005 + 1442695040888963407
	return int(uint64(*c)>>33) % n
}

// words are for a tape: small ones, great ones, and some of those at the edges.
func (c *chance) words(n int) []uint64 {
	l := make([]uint64, n)
	for i := range l {
		l[i] = uint64(c.below(1<<31))<<33 + uint64(c.below(1<<31))
		if c.below(6) == 0 {
			l[i] = []uint64{0, 1, greatest, greatest - 1, 1 << 63, 1<<63 + 5}[c.below(6)]
		}
	}
	return l
}

// blocksOf tells how many blocks each of four levels has, written out.
func blocksOf(blocks int) []int {
	return map[int][]int{
		1: {1, 1, 1, 1}, 2: {2, 1, 1, 1}, 4: {4, 1, 1, 1}, 8: {8, 2, 1, 1}, 16: {16, 4, 1, 1}, 32: {32, 8, 2, 1},
		64: {64, 16, 4, 1}, 128: {128, 32, 8, 2}, 256: {256, 64, 16, 4}, 512: {512, 128, 32, 8}, 1024: {1024, 256, 64, 16},
	}[blocks]
}

func levelConfig(c store.Config, h int) level.Config {
	return level.Config{Leaves: blocksOf(c.Blocks)[h], Slots: c.Slots, Stash: c.Stash}
}

// sizesOf counts the cells of the regions, from the top on.
func sizesOf(c store.Config) []int {
	l := []int{blocksOf(c.Blocks)[c.Levels-1]}
	for h := 0; h < c.Levels; h++ {
		leaves, places, table := blocksOf(c.Blocks)[h], c.Slots+c.Stash+1, 1
		for n := leaves; n > 1; n /= 2 {
			places += c.Slots
		}
		for table < places {
			table += table
		}
		l = append(l, c.Slots*(2*leaves-1), c.Stash, table)
	}
	return l
}

// ask is what an Access is handed.
type ask struct {
	op int
	id uint64
	d  api.Data
}

// way is a leaf, and the place of the word that gave it; one that nobody knows is not known.
type way struct {
	known       bool
	leaf, place int
}

// twin does what the chapter says from level 0 up: each level asks the one above where its block is. The top is a plain list; its levels (10) are in a memory of their own.
type twin struct {
	c      store.Config
	words  []uint64
	used   int
	top    []way
	m      *mem.Memory
	levels []*level.Level
	// Of the access that is under way, by level.
	fresh, spare, gone [store.MaxLevels]way
	sources, leaves    []int
	meant              [store.MaxLevels]map[uint64]bool
}

func newTwin(t *testing.T, c store.Config, words []uint64) *twin {
	t.Helper()
	w := &twin{c: c, words: words, top: make([]way, sizesOf(c)[0]), m: memory(t, sizesOf(c)...)}
	for h := 0; h < c.Levels; h++ {
		l, e := level.New(w.m, 1+3*h, levelConfig(c, h))
		if e != api.OK {
			t.Fatalf("level.New of level %d of %v: %v", h, c, e)
		}
		w.levels = append(w.levels, l)
		w.meant[h] = map[uint64]bool{}
	}
	return w
}

func (w *twin) word(h int) way {
	n := uint64(0)
	if w.used < len(w.words) {
		n = w.words[w.used]
	}
	w.used++
	return way{true, int(n & uint64(blocksOf(w.c.Blocks)[h]-1)), w.used - 1}
}

func (w *twin) access(a ask) (api.Data, bool) {
	for h := w.c.Levels - 1; h >= 0; h-- {
		w.fresh[h] = w.word(h)
		w.spare[h] = w.word(h)
	}
	was, there := w.visit(0, a.op, a.id, 0, a.d)
	for h := w.c.Levels - 1; h >= 0; h-- {
		w.sources = append(w.sources, w.gone[h].place)
		w.leaves = append(w.leaves, w.gone[h].leaf)
	}
	return was, there
}

func (w *twin) visit(h, op int, block uint64, at int, d api.Data) (api.Data, bool) {
	w.gone[h] = w.where(h, block)
	if !w.gone[h].known {
		w.gone[h] = w.spare[h]
	}
	if op == level.Put || op == level.Part {
		w.meant[h][block] = true
	}
	return w.levels[h].Access(op, block, at, d, w.gone[h].leaf, w.fresh[h].leaf)
}

func (w *twin) where(h int, block uint64) way {
	if h == w.c.Levels-1 {
		was := w.top[block]
		w.top[block] = w.fresh[h]
		return was
	}
	at := []int{0, 2, 4, 6}[block&3]
	was, _ := w.visit(h+1, level.Part, block>>2, at, api.Data{uint64(w.fresh[h].leaf) + 1, uint64(w.fresh[h].place)})
	return way{was[at] != 0, int(was[at]) - 1, int(was[at+1])}
}

// topCells are what the top has to be.
func (w *twin) topCells() []api.Cell {
	l := make([]api.Cell, len(w.top))
	for i, x := range w.top {
		if x.known {
			l[i] = api.Cell{uint64(x.leaf) + 1, uint64(x.place)}
		}
	}
	return l
}

// looksOf says how one access that goes these ways, the last level's first, looks at the regions from first on.
func looksOf(first int, c store.Config, leaves []int) []api.Event {
	var l []api.Event
	for at := range blocksOf(c.Blocks)[c.Levels-1] {
		l = append(l, api.Event{Region: first, At: at})
	}
	for at := range blocksOf(c.Blocks)[c.Levels-1] {
		l = append(l, api.Event{Region: first, At: at}, api.Event{Region: first, At: at, Write: true})
	}
	for i, leaf := range leaves {
		h := c.Levels - 1 - i
		l = append(l, level.Events(first+1+3*h, levelConfig(c, h), leaf)...)
	}
	return l
}

// pair is a store, and a twin that is asked the same.
type pair struct {
	m     *mem.Memory
	first int
	t     *tape.Tape
	s     *store.Store
	w     *twin
}

func memory(t *testing.T, sizes ...int) *mem.Memory {
	t.Helper()
	m, e := mem.New(sizes)
	if e != api.OK {
		t.Fatalf("mem.New(%v): %v", sizes, e)
	}
	return m
}

func on(t *testing.T, m *mem.Memory, first int, c store.Config, words []uint64) pair {
	t.Helper()
	x := tape.New(words)
	s, e := store.New(m, first, c, x)
	if s == nil || e != api.OK {
		t.Fatalf("New(m, %d, %v): %v", first, c, e)
	}
	return pair{m, first, x, s, newTwin(t, c, words)}
}

// made is a store in a memory that has just the cells that it needs.
func made(t *testing.T, c store.Config, words []uint64) pair {
	t.Helper()
	return on(t, memory(t, sizesOf(c)...), 0, c, words)
}

func cellsOf(m *mem.Memory, region int) []api.Cell {
	l := make([]api.Cell, m.Size(region))
	for at := range l {
		l[at] = m.Read(region, at)
	}
	return l
}

// check asks both, and holds what is told, the ways, and all events against each other.
func (p pair) check(t *testing.T, a ask) {
	t.Helper()
	from := p.m.Many()
	got, there := p.s.Access(a.op, a.id, a.d)
	looks := p.m.Since(from)
	if want, is := p.w.access(a); got != want || there != is {
		t.Errorf("%v: %+v tells %x, %v, not %x, %v", p.w.c, a, got, there, want, is)
	}
	ways := p.w.leaves[len(p.w.leaves)-p.w.c.Levels:]
	if !slices.Equal(looks, looksOf(p.first, p.w.c, ways)) {
		t.Errorf("%v: %+v looks otherwise", p.w.c, a)
	}
	if !slices.Equal(looks, store.Events(p.first, p.w.c, ways)) {
		t.Errorf("%v: %+v looks otherwise than its Events", p.w.c, a)
	}
	if !slices.Equal(p.s.Sources(), p.w.sources) || !slices.Equal(p.s.Leaves(), p.w.leaves) {
		t.Errorf("%v: %+v: ways are %v of %v, not %v of %v", p.w.c, a, p.s.Leaves(), p.s.Sources(), p.w.leaves, p.w.sources)
	}
	if p.t.Used() != p.w.used || p.t.Short() != (p.w.used > len(p.w.words)) {
		t.Errorf("%v: %+v: %d words were taken, not %d, short %v", p.w.c, a, p.t.Used(), p.w.used, p.t.Short())
	}
}

// checkState holds all cells, and what is told of the whole, against each other.
func (p pair) checkState(t *testing.T) {
	t.Helper()
	over, counts := false, []int{}
	for h, l := range p.w.levels {
		over = over || l.Over()
		counts = append(counts, len(p.w.meant[h]))
	}
	if p.s.Over() != over || !slices.Equal(p.s.Counts(), counts) || p.m.Fault() {
		t.Errorf("%v: over %v, counts %v, not %v, %v, fault %v", p.w.c, p.s.Over(), p.s.Counts(), over, counts, p.m.Fault())
	}
	for region := range sizesOf(p.w.c) {
		want, got := cellsOf(p.w.m, region), cellsOf(p.m, p.first+region)
		if region == 0 {
			want = p.w.topCells()
		}
		// Cells that a region has beyond those that it needs stay noughts.
		want = append(want, make([]api.Cell, len(got)-len(want))...)
		if !slices.Equal(got, want) {
			t.Errorf("%v: region %d is\n%x, not\n%x", p.w.c, region, got, want)
		}
	}
}

// checkTold asks, and holds what is told against what is meant.
func checkTold(t *testing.T, s *store.Store, a ask, want api.Data, is bool) {
	t.Helper()
	if got, there := s.Access(a.op, a.id, a.d); got != want || there != is {
		t.Errorf("%+v tells %x, %v, not %x, %v", a, got, there, want, is)
	}
}

// wild is any ask that is right; ids are few, so that many of them are met again.
func wild(c store.Config, ids int, by *chance) ask {
	a := ask{[]int{level.Look, level.Put, level.Drop, level.Put}[by.below(4)], uint64(by.below(min(ids, c.Blocks))), data(by.below(1000))}
	if by.below(8) == 0 {
		a.id = uint64(by.below(c.Blocks))
	}
	return a
}

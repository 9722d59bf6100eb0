package sweep_test

import (
	"math"
	"slices"
	"strconv"
	"testing"

	"shellgame/api"
	"shellgame/config"
	"shellgame/cuckoo"
	"shellgame/hash"
	"shellgame/level"
	"shellgame/policy"
	"shellgame/slot"
	"shellgame/store"
	"shellgame/sweep"
)

// some is a config of five cells in a region of eight; its store has 32 blocks.
func some() config.Config { return plans()[2] }

// small is one that is like it, of another capacity and batch.
func small(capacity, batch int) config.Config {
	table := max(8, nextPower(capacity+batch))
	return config.Config{Capacity: capacity, Batch: batch, Kicks: 3, Spill: 4, Table: table, Slots: 3, Stash: 12, Levels: 1}
}

func newBox(t *testing.T, c config.Config, words []uint64) *sweep.Box {
	t.Helper()
	b, e := sweep.New(c, words)
	if b == nil || e != api.OK {
		t.Fatalf("New(%+v): %v", c, e)
	}
	return b
}

// named are entries of these ranks, without an end; keys are as long as they may be, and less.
func named(ranks ...uint64) []entry {
	var l []entry
	for i, rank := range ranks {
		name := "key" + strconv.Itoa(i)
		l = append(l, entry{key: name, value: "v" + strconv.Itoa(i), rank: rank, uses: 1})
	}
	return l
}

// until is the same entries, each with its end.
func until(l []entry, ends ...uint64) []entry {
	l = slices.Clone(l)
	for i := range l {
		l[i].until = ends[i]
	}
	return l
}

func (r *pair) look(cell int) api.Data {
	d, _ := r.b.S.Access(level.Look, uint64(2*r.w.c.Table+cell), api.Data{})
	r.w.s.Access(level.Look, r.w.block(uint64(cell)), api.Data{})
	return d
}

func (r *pair) find(key string) cuckoo.Spot {
	r.w.x.Find(text(key))
	return r.b.X.Find(text(key))
}

// checkLeft asks of entries that were laid from cell 0 on that those of these cells are gone, one behind the other, and all others are as they were.
func (r *pair) checkLeft(t *testing.T, l []entry, gone []int, head int) {
	t.Helper()
	for cell, e := range l {
		at := r.find(e.key)
		if behind := slices.Index(gone, cell); behind >= 0 {
			next := head
			if behind > 0 {
				next = gone[behind-1] + 1
			}
			if d := r.look(cell); at != (cuckoo.Spot{Table: -1}) || d != free(next) {
				t.Errorf("%q, that has to be gone, is at %+v; its block is %x", e.key, at, d)
			}
			continue
		}
		if d := r.look(cell); at.Table < 0 || at.Cell != uint64(cell) || d != e.data() {
			t.Errorf("%q, that has to be left, is at %+v; its block is %x", e.key, at, d)
		}
	}
	r.notOver(t)
}

// checkPass lets a pass go over entries, and asks that just these cells are gone.
func checkPass(t *testing.T, c config.Config, l []entry, now uint64, gone ...int) {
	t.Helper()
	r := filled(t, c, l)
	if got := r.pass(t, now); got != len(gone) {
		t.Errorf("%+v of %+v: Pass(%d) = %d, not %d", c, l, now, got, len(gone))
	}
	want := sweep.State{Resident: len(l) - len(gone), Made: len(l)}
	if len(gone) > 0 {
		want.Head = gone[len(gone)-1] + 1
	}
	if got := r.b.State(); got != want {
		t.Errorf("%+v of %+v: the state is %+v, not %+v", c, l, got, want)
	}
	r.w.m.Read(0, 0)
	r.checkLeft(t, l, gone, 0)
	r.check(t)
}

// The chapter's example.
func TestExampleOfTheChapter(t *testing.T) {
	c := config.Config{Capacity: 1, Batch: 1, Kicks: 1, Spill: 2, Table: 2, Slots: 2, Stash: 8, Levels: 1}
	checkPass(t, c, named(5, 3), 0, 1)
	checkPass(t, c, named(3, 5), 0, 0)
}

// Z1: New.

func TestNewOfAWrongConfig(t *testing.T) {
	far := []int{0, -1, -64, 65, 129, 4096, 1 << 32, 1<<32 + 2, math.MinInt, math.MaxInt}
	wrong := []config.Config{{}}
	for _, c := range plans() {
		for _, part := range []func(c *config.Config) *int{
			func(c *config.Config) *int { return &c.Capacity },
			func(c *config.Config) *int { return &c.Batch },
			func(c *config.Config) *int { return &c.Kicks },
			func(c *config.Config) *int { return &c.Spill },
			func(c *config.Config) *int { return &c.Table },
			func(c *config.Config) *int { return &c.Slots },
			func(c *config.Config) *int { return &c.Stash },
			func(c *config.Config) *int { return &c.Levels },
		} {
			for _, n := range far {
				other := c
				*part(&other) = n
				wrong = append(wrong, other)
			}
		}
		for _, n := range []int{-1, 3, 4, math.MinInt, math.MaxInt} {
			other := c
			other.Policy = n
			wrong = append(wrong, other)
		}
		// No power of two; too few places; a tree that is too great.
		wide, few, great := c, c, c
		wide.Table = c.Table + 1
		few.Table = nextPower(cellsOf(c)) / 2
		great.Table, great.Slots = 128, 5
		if few.Table >= cellsOf(c) {
			t.Fatalf("%+v is right", few)
		}
		wrong = append(wrong, wide, few, great)
	}
	for _, c := range wrong {
		for _, words := range [][]uint64{nil, {1, 2, 3, 4, 5, 6, 7, 8}} {
			if b, e := sweep.New(c, words); b != nil || e != api.ErrArg {
				t.Errorf("New(%+v) = %v, %v", c, b != nil, e)
			}
		}
	}
}

func TestNewIsAnErrorJustOfAWrongConfig(t *testing.T) {
	t.Parallel()
	by := chance(5)
	right := 0
	for range 3000 {
		c := config.Config{
			Capacity: by.below(20), Batch: by.below(10), Kicks: by.below(18), Spill: by.below(35), Table: 1 << by.below(8),
			Slots: by.below(9), Stash: by.below(20), Levels: by.below(6), Policy: by.below(4),
		}
		b, e := sweep.New(c, nil)
		if config.Check(c) == nil {
			right++
			if b == nil || e != api.OK {
				t.Errorf("New(%+v): %v", c, e)
			}
		} else if b != nil || e != api.ErrArg {
			t.Errorf("New(%+v) = %v, %v", c, b != nil, e)
		}
	}
	if right < 300 {
		t.Errorf("only %d of them are right", right)
	}
}

// A box made anew: nothing was looked at, all cells are noughts, and four words were taken.
func TestNewBox(t *testing.T) {
	greatestOne := config.Config{Capacity: 64, Batch: 16, Kicks: 16, Spill: 32, Table: 128, Slots: 4, Stash: 64, Levels: 4, Policy: 2}
	for _, c := range append(plans(), greatestOne) {
		b := newBox(t, c, []uint64{9, 8, 7, 6, 5})
		if b.C != c || b.T.Used() != 4 || b.T.Short() || b.M.Many() != 0 || b.M.Fault() || len(b.S.Sources()) != 0 || b.S.Over() {
			t.Errorf("%+v: %+v, %d words, %d events", c, b.C, b.T.Used(), b.M.Many())
		}
		for region, size := range sizesOf(c) {
			if b.M.Size(region) != size || slices.ContainsFunc(inRegion(b.M, region), func(c api.Cell) bool { return c != api.Cell{} }) {
				t.Errorf("%+v: region %d has %d cells, not %d, or they are no noughts", c, region, b.M.Size(region), size)
			}
		}
		if many := len(sizesOf(c)); b.M.Size(many) != 0 {
			t.Errorf("%+v: there are more than %d regions", c, many)
		}
		if b.State() != (sweep.State{}) {
			t.Errorf("%+v: the state is %+v", c, b.State())
		}
	}
	b := newBox(t, some(), nil)
	for region, size := range []int{1, 4, 8, 8, 126, 19, 32, 30, 19, 32} {
		if b.M.Size(region) != size {
			t.Errorf("region %d has %d cells, not %d", region, b.M.Size(region), size)
		}
	}
}

func TestNewOnATapeOfFewWords(t *testing.T) {
	t.Parallel()
	for many := range 7 {
		words := []uint64{101, 1 << 50, greatest, 77, 5, 6}[:many]
		b := newBox(t, some(), words)
		if b.T.Used() != 4 || b.T.Short() != (many < 4) {
			t.Errorf("%d words: %d were taken, short %v", many, b.T.Used(), b.T.Short())
		}
		// Those that there are not are noughts.
		var four [4]uint64
		copy(four[:], words)
		h := hash.Hash{A: four[0], B: four[1], C: four[2], D: four[3]}
		for key := range uint64(20) {
			if !b.X.Insert(key, key+40, true) {
				break
			}
			at := b.X.Find(key)
			if at.Table == 0 && at.At != uint64(hash.At(h, 0, key, 8)) || at.Table == 1 && at.At != uint64(hash.At(h, 1, key, 8)) {
				t.Errorf("%d words: key %d is at %+v", many, key, at)
			}
		}
	}
}

// Each word of the hash counts, at its own place.
func TestNewHash(t *testing.T) {
	t.Parallel()
	by := chance(17)
	c := some()
	for range 12 {
		words := by.words(2000)
		b := newBox(t, c, words)
		h := hash.Hash{A: words[0], B: words[1], C: words[2], D: words[3]}
		for range 6 {
			key := by.word() >> 4
			b.X.Insert(key, 3, true)
			// This one drives the other one out, into table 1.
			b.X.Insert(key, 4, true)
			for table := range 2 {
				at := b.X.Find(key)
				if at != (cuckoo.Spot{Table: table, At: uint64(hash.At(h, table, key, 8)), Cell: uint64(4 - table)}) {
					t.Errorf("%v: key %d is at %+v", h, key, at)
				}
				b.X.Remove(key, at, true)
			}
		}
	}
}

// The store and the index are on the memory and on the tape, behind the words of the hash.
func TestNewStoreAndIndex(t *testing.T) {
	for _, c := range plans() {
		by := chance(3)
		words := by.words(300)
		b := newBox(t, c, words)
		b.S.Access(level.Look, 1, api.Data{})
		var sources, leaves []int
		blocks := storeOf(c).Blocks
		for h := range c.Levels {
			// Nobody knows where the block is: all ways are those of spare words.
			at := 4 + 2*h + 1
			sources = append(sources, at)
			leaves = append(leaves, int(words[at]%uint64(max(blocks>>(2*(c.Levels-1-h)), 1))))
		}
		if !slices.Equal(b.S.Sources(), sources) || !slices.Equal(b.S.Leaves(), leaves) || b.T.Used() != 4+2*c.Levels {
			t.Errorf("%+v: ways %v of %v, not %v of %v", c, b.S.Leaves(), b.S.Sources(), leaves, sources)
		}
		if !slices.Equal(b.M.Trace(), store.Events(3, storeOf(c), leaves)) {
			t.Errorf("%+v: the store looks otherwise", c)
		}
		from, used := b.M.Many(), b.T.Used()
		b.X.Insert(7, 1, true)
		if b.T.Used()-used != 4*c.Kicks*c.Levels {
			t.Errorf("%+v: an Insert takes %d words", c, b.T.Used()-used)
		}
		inSpill := 0
		for _, e := range b.M.Since(from) {
			if e.Region == 1 {
				inSpill++
			}
		}
		if inSpill != 3*c.Spill {
			t.Errorf("%+v: an Insert looks at the spill %d times", c, inSpill)
		}
	}
}

// With more entries of one place than the tables take, those that are left over are in region 1.
func TestNewSpill(t *testing.T) {
	c := some()
	by := chance(31)
	b := newBox(t, c, by.words(3000))
	many := 0
	for key := range uint64(1 << 20) {
		h := b.X.Find(key)
		if h.Table >= 0 {
			t.Fatalf("key %d is at %+v", key, h)
		}
		if !b.X.Insert(key, key, true) {
			break
		}
		many++
	}
	cells := inRegion(b.M, 1)
	for at, cell := range cells {
		if cell[0] != 1 || cell[1] == 0 || cell[2] != cell[1]-1 || cell[2] >= uint64(many) {
			t.Errorf("cell %d of the spill is %x", at, cell)
		}
	}
	if many < 4 || len(cells) != 4 {
		t.Errorf("%d entries, %d cells", many, len(cells))
	}
}

// P3.
func TestWordsAreNeitherChangedNorKept(t *testing.T) {
	by := chance(8)
	all := by.words(500)
	were := slices.Clone(all)
	handed := slices.Clone(all)[:100]
	one, other := newBox(t, some(), handed), newBox(t, some(), slices.Clone(all[:100]))
	if !slices.Equal(handed[:500], were) {
		t.Error("the words are changed")
	}
	clear(handed[:500])
	for range 3 {
		one.Blank()
		other.Blank()
		one.Pass(2)
		other.Pass(2)
	}
	if !slices.Equal(one.S.Leaves(), other.S.Leaves()) || !one.T.Short() || !slices.Equal(handed[:500], make([]uint64, 500)) {
		t.Error("the words are kept")
	}
}

// Z1: the state.

func numbers() []int {
	l := []int{0, 2, 3, 5, 80, 1<<31 - 1, 1<<31 - 2}
	for i := range 31 {
		l = append(l, 1<<i)
	}
	return l
}

func TestState(t *testing.T) {
	b := newBox(t, plans()[1], nil)
	for _, head := range numbers() {
		for _, resident := range numbers() {
			made := head ^ resident
			for _, s := range []sweep.State{{Head: head, Resident: resident, Made: made}, {Head: made, Resident: head, Made: resident}} {
				b.M.Write(0, 0, api.Cell{9, 9, 9, 9, 9, 9, 9, 9, 9, 9, 9, 9})
				from := b.M.Many()
				b.SetState(s)
				got := b.State()
				if got != s {
					t.Fatalf("%+v is read, not %+v", got, s)
				}
				if want := []api.Event{{Region: 0, At: 0, Write: true}, {Region: 0, At: 0}}; !slices.Equal(b.M.Since(from), want) {
					t.Fatalf("%+v: events are %+v", s, b.M.Since(from))
				}
				if c := b.M.Read(0, 0); c != (api.Cell{uint64(s.Head), uint64(s.Resident), uint64(s.Made)}) {
					t.Fatalf("%+v: the cell is %x", s, c)
				}
			}
		}
	}
	if b.T.Used() != 4 || b.M.Fault() {
		t.Errorf("%d words were taken, fault %v", b.T.Used(), b.M.Fault())
	}
}

func TestStateChangesNothingElse(t *testing.T) {
	c := some()
	r := filled(t, c, named(4, 5, 6))
	var were [][]api.Cell
	for region := range sizesOf(c) {
		were = append(were, inRegion(r.b.M, region))
	}
	r.b.SetState(sweep.State{Head: 3, Resident: 2, Made: 4})
	r.b.State()
	were[0][0] = api.Cell{3, 2, 4}
	for region, was := range were {
		if got := inRegion(r.b.M, region); !slices.Equal(got, was) {
			t.Errorf("region %d is %x, not %x", region, got, was)
		}
	}
}

// What is read is the cell, whoever wrote it.
func TestStateIsTheCell(t *testing.T) {
	b := newBox(t, some(), nil)
	b.M.Write(0, 0, api.Cell{5, 6, 7, 8, 9})
	if got := b.State(); got != (sweep.State{Head: 5, Resident: 6, Made: 7}) {
		t.Errorf("%+v", got)
	}
}

// Z1: blocks.

func TestBlock(t *testing.T) {
	for _, c := range plans() {
		b := newBox(t, c, []uint64{1, 2, 3, 4, 5, 6, 7})
		for cell := range cellsOf(c) {
			if got := b.Block(cell); got != uint64(c.Table+c.Table+cell) {
				t.Errorf("%+v: Block(%d) = %d", c, cell, got)
			}
		}
		if b.M.Many() != 0 || b.T.Used() != 4 {
			t.Errorf("%+v: a Block is seen", c)
		}
	}
	b := newBox(t, some(), nil)
	if b.Block(0) != 16 || b.Block(4) != 20 {
		t.Errorf("Block(0), Block(4) = %d, %d", b.Block(0), b.Block(4))
	}
}

// Blank goes the way of block 0, wherever that was put, and changes nothing.
func TestBlank(t *testing.T) {
	t.Parallel()
	for _, c := range plans() {
		r := filled(t, c, named(7, 8))
		was := []api.Data{r.look(0), r.look(1)}
		r.b.S.Access(level.Put, 0, api.Data{1, 2, 3, 4, 5, 6, 7, 8})
		r.w.s.Access(level.Put, 0, api.Data{1, 2, 3, 4, 5, 6, 7, 8})
		for range 5 {
			from, gone, used := r.b.M.Many(), len(r.b.S.Leaves()), r.b.T.Used()
			fresh := used - 2
			r.b.Blank()
			r.w.blank()
			ways, sources := r.b.S.Leaves()[gone:], r.b.S.Sources()[gone:]
			if r.b.T.Used()-used != 2*c.Levels || len(ways) != c.Levels {
				t.Errorf("%+v: %d words, %d ways", c, r.b.T.Used()-used, len(ways))
			}
			if sources[c.Levels-1] != fresh {
				t.Errorf("%+v: the way is that of word %d, not of word %d, that block 0 was given", c, sources[c.Levels-1], fresh)
			}
			if !slices.Equal(r.b.M.Since(from), store.Events(3, storeOf(c), ways)) {
				t.Errorf("%+v: a Blank looks otherwise", c)
			}
			r.check(t)
		}
		if got := []api.Data{r.look(0), r.look(1)}; !slices.Equal(got, was) {
			t.Errorf("%+v: blocks are %x, not %x", c, got, was)
		}
		if d, there := r.b.S.Access(level.Look, 0, api.Data{}); !there || d != (api.Data{1, 2, 3, 4, 5, 6, 7, 8}) {
			t.Errorf("%+v: block 0 is %x", c, d)
		}
		r.notOver(t)
	}
}

// If block 0 is not there, a Blank does not make it.
func TestBlankMakesNoBlock(t *testing.T) {
	b := newBox(t, some(), []uint64{1, 2, 3, 4, 5, 6, 7, 8, 9, 10})
	b.Blank()
	b.Blank()
	if got := b.S.Counts()[0]; got != 0 {
		t.Errorf("%d blocks were put", got)
	}
	if _, there := b.S.Access(level.Look, 0, api.Data{}); there {
		t.Error("block 0 is there")
	}
}

// Z2.

func TestPassOverNothing(t *testing.T) {
	t.Parallel()
	for i, c := range plans() {
		r := filled(t, c, nil)
		if got := r.pass(t, uint64(i)); got != 0 {
			t.Errorf("%+v: Pass = %d", c, got)
		}
		if got := r.b.State(); got != (sweep.State{}) {
			t.Errorf("%+v: the state is %+v", c, got)
		}
		if got := r.b.S.Counts()[0]; got != 0 {
			t.Errorf("%+v: %d blocks were put", c, got)
		}
		for at, cell := range inRegion(r.b.M, 2) {
			want := api.Cell{blank + uint64(at)}
			if at < cellsOf(c) {
				want[1] = uint64(at)
			}
			if cell != want {
				t.Errorf("%+v: cell %d of the sweep is %x", c, at, cell)
			}
		}
	}
}

// No more entries than the capacity; one more; a batch more.
func TestPassByHowManyThereAre(t *testing.T) {
	t.Parallel()
	for capacity := 1; capacity <= 4; capacity++ {
		for batch := 1; batch <= 4; batch++ {
			c := small(capacity, batch)
			// From the greatest rank on, so that the last ones go first.
			var ranks []uint64
			for many := 0; many <= capacity+batch; many++ {
				var gone []int
				for i := range many - capacity {
					gone = append(gone, many-1-i)
				}
				checkPass(t, c, named(ranks...), 9, gone...)
				ranks = append(ranks, uint64(100-many))
			}
		}
	}
}

func TestPassOfAsManyAsTheCapacity(t *testing.T) {
	t.Parallel()
	for _, c := range plans() {
		var ranks []uint64
		for i := range min(c.Capacity, 8) {
			ranks = append(ranks, uint64(i*7%5))
		}
		checkPass(t, c, named(ranks...), 1)
	}
}

func TestPassOfAllCells(t *testing.T) {
	t.Parallel()
	for _, c := range plans() {
		var ranks []uint64
		var gone []int
		for i := range cellsOf(c) {
			ranks = append(ranks, uint64(1000+i))
			if i < c.Batch {
				gone = append(gone, i)
			}
		}
		checkPass(t, c, named(ranks...), 1, gone...)
	}
}

func TestPassByRank(t *testing.T) {
	t.Parallel()
	c := small(3, 2)
	for _, x := range []struct {
		ranks []uint64
		gone  []int
	}{
		{[]uint64{3, 2, 4, 9}, []int{1}},
		{[]uint64{9, 8, 7, 6}, []int{3}},
		{[]uint64{0, 1, 2, 3}, []int{0}},
		{[]uint64{3, 7, 4, 9, 5}, []int{0, 2}},
		{[]uint64{5, 9, 4, 7, 3}, []int{4, 2}},
		{[]uint64{1<<33 + 1, 1<<32 + 9, 1<<33 + 5, 1<<34 + 2, 1<<32 + 7}, []int{4, 1}},
		{[]uint64{256, 255, 1 << 16, 1<<16 - 1, 257}, []int{1, 0}},
		// Of a rank what it has from 2^62 on does not count.
		{[]uint64{5, 1<<62 + 4, 6, 7}, []int{1}},
		{[]uint64{5, 6, 7, 3 << 62}, []int{3}},
		{[]uint64{1<<62 - 1, 1 << 62, 1<<63 + 2, greatest - 1, 1}, []int{1, 4}},
		{[]uint64{1<<62 - 1, 1<<62 - 2, 1<<62 - 3, 1<<62 - 4}, []int{3}},
	} {
		checkPass(t, c, named(x.ranks...), 50, x.gone...)
	}
}

// Entries that expired: just at the time, one before, and without an end.
func TestPassByTime(t *testing.T) {
	t.Parallel()
	c := small(3, 2)
	l := named(3, 2, 1)
	for _, x := range []struct {
		ends []uint64
		now  uint64
		gone []int
	}{
		{[]uint64{0, 0, 0}, 5, nil},
		{[]uint64{0, 0, 0}, greatest, nil},
		{[]uint64{5, 6, 0}, 5, []int{0}},
		{[]uint64{5, 6, 0}, 4, nil},
		{[]uint64{5, 6, 0}, 6, []int{1, 0}},
		{[]uint64{5, 6, 0}, 7, []int{1, 0}},
		{[]uint64{1, 1, 1}, 0, nil},
		{[]uint64{0, 0, 1}, 1, []int{2}},
		{[]uint64{1 << 40, 1<<40 - 1, 0}, 1<<40 - 1, []int{1}},
		{[]uint64{greatest, greatest - 1, 0}, greatest - 1, []int{1}},
		{[]uint64{greatest, greatest - 1, 0}, greatest, []int{1, 0}},
		{[]uint64{greatest, 1 << 63, 0}, 1 << 63, []int{1}},
		{[]uint64{5, greatest, 0}, 1 << 63, []int{0}},
		{[]uint64{5, greatest, 1 << 63}, 4, nil},
		// More than the batch.
		{[]uint64{4, 4, 4}, 4, []int{2, 1}},
	} {
		checkPass(t, c, until(l, x.ends...), x.now, x.gone...)
	}
}

// Those that expired go ahead of all others, each of both kinds by rank.
func TestPassByTimeAndRank(t *testing.T) {
	t.Parallel()
	for _, x := range []struct {
		capacity, batch int
		ranks, ends     []uint64
		gone            []int
	}{
		// One that expired, and as many as are above the capacity.
		{3, 2, []uint64{1, 2, 3, 9}, []uint64{0, 0, 0, 5}, []int{3}},
		{3, 2, []uint64{1, 2, 3, 4, 9}, []uint64{0, 0, 0, 0, 5}, []int{4, 0}},
		{3, 2, []uint64{1, 2, 3, 4, 9}, []uint64{0, 0, 0, 6, 5}, []int{4, 0}},
		{3, 2, []uint64{7, 2, 3, 4, 9}, []uint64{0, 0, 0, 6, 5}, []int{4, 1}},
		// More that expired than are above the capacity.
		{3, 3, []uint64{1, 8, 2, 7}, []uint64{0, 5, 0, 4}, []int{3, 1}},
		{3, 3, []uint64{1, 7, 2, 8}, []uint64{0, 5, 0, 4}, []int{1, 3}},
		{4, 3, []uint64{9, 1, 8, 7}, []uint64{1, 0, 2, 3}, []int{3, 2, 0}},
		// A batch of which a part expired, and more that expired than the batch.
		{2, 3, []uint64{5, 4, 3, 2, 1}, []uint64{3, 3, 0, 0, 0}, []int{1, 0, 4}},
		{2, 3, []uint64{5, 4, 3, 2, 1}, []uint64{3, 3, 3, 3, 0}, []int{3, 2, 1}},
		{2, 1, []uint64{5, 4, 3}, []uint64{3, 3, 0}, []int{1}},
		{1, 1, []uint64{1, 2}, []uint64{0, 3}, []int{1}},
		{1, 2, []uint64{1, 2}, []uint64{0, 3}, []int{1}},
		// A rank of more bits than count in the order is still that of one that expired.
		{1, 1, []uint64{0, greatest}, []uint64{0, 3}, []int{1}},
		{1, 1, []uint64{greatest, 1 << 62}, []uint64{3, 3}, []int{1}},
	} {
		checkPass(t, small(x.capacity, x.batch), until(named(x.ranks...), x.ends...), 5, x.gone...)
	}
}

// Keys of all lengths, that without bytes among them, whose word is that of a line without a key.
func TestPassOfKeysOfAllKinds(t *testing.T) {
	t.Parallel()
	keys := []string{"", "a", "\x00", "\x00\x00", "\xff\xff\xff\xff\xff\xff\xff", "1234567"}
	c := small(5, 1)
	for at := range keys {
		l := named(20, 21, 22, 23, 24, 25)
		for i := range l {
			l[i].key, l[i].value = keys[i], keys[len(keys)-1-i]
		}
		l[at].rank = 3
		checkPass(t, c, l, 1, at)
		l[at].rank, l[at].until = 99, 1
		checkPass(t, c, l, 1, at)
	}
}

// Cell by cell what a pass leaves in the region of the sweep, by hand.
func TestLinesOfThePass(t *testing.T) {
	c := some()
	l := until(named(30, 10, 20), 0, 0, 9)
	r := filled(t, c, l)
	r.put(3, free(0))
	r.setState(sweep.State{Head: 4, Resident: 3, Made: 4})
	if got := r.pass(t, 9); got != 1 {
		t.Errorf("Pass(9) = %d", got)
	}
	want := []api.Cell{
		{20, 2, text("key2")},
		{1<<62 + 10, 1, text("key1")},
		{1<<62 + 30, 0, text("key0")},
		{1<<63 + 3, 3},
		{1<<63 + 4, 4},
		{1<<63 + 5},
		{1<<63 + 6},
		{1<<63 + 7},
	}
	if got := inRegion(r.b.M, 2); !slices.Equal(got, want) {
		t.Errorf("the lines are %x, not %x", got, want)
	}
	if got := r.b.State(); got != (sweep.State{Head: 3, Resident: 2, Made: 4}) {
		t.Errorf("the state is %+v", got)
	}
}

// What stood in the region of the sweep does not count.
func TestPassWritesAllLines(t *testing.T) {
	t.Parallel()
	for _, c := range plans() {
		r := filled(t, c, named(3))
		for _, word := range []uint64{0, 1, 1 << 62, greatest} {
			for at := range r.b.M.Size(2) {
				cell := api.Cell{word, word, word, word, word, word, word, word, word, word, word, word}
				r.b.M.Write(2, at, cell)
				r.w.m.Write(2, at, cell)
			}
			r.pass(t, 1)
		}
		r.checkLeft(t, named(3), nil, 0)
	}
}

// Of equal keys as many go; which ones hangs on the network, as the chapter's words say.
func TestPassOfEqualKeys(t *testing.T) {
	t.Parallel()
	for _, c := range []config.Config{small(1, 1), small(2, 2), small(3, 2), small(4, 4), small(1, 6), small(5, 3)} {
		for kind := range 3 {
			l := named(slices.Repeat([]uint64{7}, cellsOf(c))...)
			for i := range l {
				switch {
				case kind == 1:
					l[i].until = 2
				case kind == 2:
					l[i].rank += uint64(i%2) << 62
				}
			}
			r := filled(t, c, l)
			if got := r.pass(t, 2); got != c.Batch {
				t.Errorf("%+v: Pass = %d", c, got)
			}
			if got := r.b.State(); got.Resident != c.Capacity || got.Made != len(l) {
				t.Errorf("%+v: the state is %+v", c, got)
			}
			left := 0
			for cell, e := range l {
				at, d := r.b.X.Find(text(e.key)), r.look(cell)
				if at.Table >= 0 && d == e.data() && at.Cell == uint64(cell) {
					left++
				} else if at.Table >= 0 || d[0] != 0 {
					t.Errorf("%+v: %q is at %+v, its block is %x", c, e.key, at, d)
				}
			}
			if left != c.Capacity {
				t.Errorf("%+v: %d are left", c, left)
			}
		}
	}
}

// Of two keys that are equal the one below the others goes, or that above stays.
func TestPassOfSomeEqualKeys(t *testing.T) {
	c := small(3, 2)
	for _, x := range []struct {
		ranks []uint64
		gone  []int
	}{
		{[]uint64{5, 5, 1}, nil},
		{[]uint64{5, 5, 5, 1}, []int{3}},
		{[]uint64{5, 1, 5, 2, 5}, []int{1, 3}},
		{[]uint64{2, 1, 5, 5, 5}, []int{1, 0}},
	} {
		checkPass(t, c, named(x.ranks...), 1, x.gone...)
	}
}

// More must go than the batch: the others are still there, and go with the passes behind.
func TestPassBehindPass(t *testing.T) {
	t.Parallel()
	c := small(6, 2)
	l := until(named(8, 7, 6, 5, 4, 3, 2, 1), 3, 0, 3, 3, 0, 3, 3, 0)
	r := filled(t, c, l)
	for i, x := range []struct {
		state sweep.State
		many  int
		gone  []int
	}{
		{sweep.State{Head: 6, Resident: 6, Made: 8}, 2, []int{6, 5}},
		{sweep.State{Head: 3, Resident: 4, Made: 8}, 2, []int{6, 5, 3, 2}},
		{sweep.State{Head: 1, Resident: 3, Made: 8}, 1, []int{6, 5, 3, 2, 0}},
		{sweep.State{Head: 1, Resident: 3, Made: 8}, 0, []int{6, 5, 3, 2, 0}},
	} {
		if got := r.pass(t, 3); got != x.many {
			t.Errorf("pass %d tells %d", i, got)
		}
		if got := r.b.State(); got != x.state {
			t.Errorf("behind pass %d: %+v, not %+v", i, got, x.state)
		}
		r.w.m.Read(0, 0)
		r.checkLeft(t, l, x.gone, 0)
	}
}

// Cells that were used and are free, and cells that were never used, are none of those that go; the free ones stay one behind the other.
func TestPassAmongFreeCells(t *testing.T) {
	c := small(2, 3)
	r := filled(t, c, nil)
	l := named(9, 0, 4, 0, 6)
	for _, cell := range []int{0, 2, 4} {
		r.insert(t, l[cell].key, cell)
		r.put(cell, l[cell].data())
	}
	r.put(1, free(0))
	r.put(3, free(2))
	r.setState(sweep.State{Head: 4, Resident: 3, Made: 5})
	if got := r.pass(t, 1); got != 1 {
		t.Errorf("Pass = %d", got)
	}
	if got := r.b.State(); got != (sweep.State{Head: 3, Resident: 2, Made: 5}) {
		t.Errorf("the state is %+v", got)
	}
	for cell, want := range []api.Data{l[0].data(), free(0), free(4), free(2), l[4].data()} {
		if got := r.look(cell); got != want {
			t.Errorf("cell %d is %x, not %x", cell, got, want)
		}
	}
	r.notOver(t)
}

// The state is read and written, whatever it says: Resident and Made are not reckoned from the cells, and how many go is not reckoned from the state.
func TestPassAndTheState(t *testing.T) {
	t.Parallel()
	for _, s := range []sweep.State{{}, {Head: 5}, {Resident: 1}, {Head: 1<<31 - 1, Resident: 1<<31 - 1, Made: 1<<31 - 1}, {Head: 2, Resident: 7, Made: 1}} {
		c := small(2, 2)
		l := named(4, 3, 2, 1)
		r := filled(t, c, l)
		r.setState(s)
		if got := r.pass(t, 0); got != 2 {
			t.Errorf("%+v: Pass = %d", s, got)
		}
		if got := r.b.State(); got != (sweep.State{Head: 3, Resident: s.Resident - 2, Made: s.Made}) {
			t.Errorf("%+v: the state is %+v", s, got)
		}
		r.checkLeft(t, l, []int{3, 2}, s.Head)
		r.notOver(t)
	}
}

// Blocks that are no slot's are as cells that are not used, and stay as they are.
func TestPassOverBlocksThatAreNoSlots(t *testing.T) {
	t.Parallel()
	a, v := text("a"), text("v")
	for _, d := range []api.Data{
		{2, a, v}, {greatest, a, v}, {0, a, v}, {0, 0, 0, 0, 1}, {1, 1, v}, {1, a, 1}, {1, 8 << 56, v}, {1, a, 8 << 56},
		{1, a, v, 0, 0, 0, 1}, {1, a, v, 0, 0, 0, 0, 1}, {0, 0, 0, 1}, {0, 0, 0, 0, 0, 1}, {0, 0, 0, 0, 0, 0, 1<<31 + 1}, {0, 0, 0, 0, 0, 0, greatest}, {0, 0, 0, 0, 0, 0, 0, 1},
		{greatest, greatest, greatest, greatest, greatest, greatest, greatest, greatest},
	} {
		if _, e := slot.Read(d); e == api.OK {
			t.Fatalf("%x is a slot's", d)
		}
		c := small(1, 2)
		r := filled(t, c, named(5))
		r.put(1, d)
		r.put(2, d)
		r.insert(t, "a", 1)
		if got := r.pass(t, 9); got != 0 {
			t.Errorf("%x: Pass = %d", d, got)
		}
		if r.look(1) != d || r.look(2) != d || r.find("a").Cell != 1 {
			t.Errorf("%x is changed", d)
		}
		// One that goes does not take them along.
		r.put(2, named(0, 0, 4)[2].data())
		if got := r.pass(t, 9); got != 1 || r.look(1) != d || r.look(2) != free(0) {
			t.Errorf("%x: Pass = %d, or it is changed", d, got)
		}
		r.notOver(t)
	}
}

// The block that is put is that of the line, also if the index knows the key elsewhere, or does not know it.
func TestPassWhereTheIndexSaysOtherwise(t *testing.T) {
	c := small(1, 2)
	for _, known := range []int{-1, 0, 1, 2, 77} {
		r := filled(t, c, nil)
		l := named(5, 4, 3)
		for cell, e := range l {
			r.put(cell, e.data())
		}
		if known >= 0 {
			r.insert(t, l[2].key, known)
		}
		r.setState(sweep.State{Resident: 3, Made: 3})
		if got := r.pass(t, 1); got != 2 {
			t.Errorf("Pass = %d", got)
		}
		if got := r.b.State(); got != (sweep.State{Head: 2, Resident: 1, Made: 3}) {
			t.Errorf("the state is %+v", got)
		}
		if r.find(l[2].key).Table >= 0 || r.look(0) != l[0].data() || r.look(1) != free(3) || r.look(2) != free(0) {
			t.Errorf("known %d: %x, %x, %x", known, r.look(0), r.look(1), r.look(2))
		}
	}
}

// A key that two cells say is there still if the index had it twice, and one of them goes.
func TestPassOfOneKeyTwice(t *testing.T) {
	c := small(1, 1)
	l := []entry{{key: "k", value: "old", rank: 1, uses: 1}, {key: "k", value: "new", rank: 2, uses: 1}}
	r := filled(t, c, l)
	if got := r.pass(t, 1); got != 1 {
		t.Errorf("Pass = %d", got)
	}
	if r.find("k").Table < 0 || r.look(0) != free(0) || r.look(1) != l[1].data() {
		t.Errorf("%+v, %x, %x", r.find("k"), r.look(0), r.look(1))
	}
}

// Entries in either table and in the spill.
func TestPassWhereverAnEntryIs(t *testing.T) {
	t.Parallel()
	// One place and two tables: three entries are two in the tables, and one in the spill.
	var in [3]int
	by := chance(77)
	for kicks := 1; kicks <= 4; kicks++ {
		c := config.Config{Capacity: 2, Batch: 2, Kicks: kicks, Spill: 4, Table: 4, Slots: 2, Stash: 20, Levels: 1}
		for round := range 12 {
			r := made(t, c, by.words(3000))
			l := named(40, 41, 42, 43)
			for i := range l {
				l[i].key = strconv.Itoa(by.below(1000000) + i)
			}
			first, second := round%4, (round+1+round/4%3)%4
			l[first].rank, l[second].rank = 1, 2
			r.fill(t, l)
			in[r.find(l[first].key).Table]++
			in[r.find(l[second].key).Table]++
			r.pass(t, 1)
			r.checkLeft(t, l, []int{first, second}, 0)
		}
	}
	if in[0] == 0 || in[1] == 0 || in[2] == 0 {
		t.Errorf("of those that go so many were in the tables and in the spill: %v", in)
	}
}

// A spill without a free cell has one behind a pass that takes an entry of it away.
func TestPassMakesRoomInTheSpill(t *testing.T) {
	t.Parallel()
	c := config.Config{Capacity: 3, Batch: 1, Kicks: 1, Spill: 1, Table: 4, Slots: 2, Stash: 20, Levels: 1}
	by := chance(4)
	done := 0
	for range 60 {
		r := made(t, c, by.words(3000))
		l := named(4, 3, 2, 1)
		fits := !slices.ContainsFunc(l, func(e entry) bool { return !r.insert(t, e.key, int(e.key[3]-'0')) })
		last := slices.IndexFunc(l, func(e entry) bool { return r.find(e.key).Table == 2 })
		if !fits || last < 0 {
			continue
		}
		done++
		for cell, e := range l {
			if cell == last {
				e.until = 1
			}
			r.put(cell, e.data())
		}
		r.setState(sweep.State{Resident: 4, Made: 4})
		r.pass(t, 1)
		if r.find(l[last].key).Table >= 0 || r.b.M.Read(1, 0) != (api.Cell{}) || r.b.State().Head != last+1 {
			t.Errorf("cell %d is not free", last)
		}
	}
	if done < 5 {
		t.Errorf("only %d spills were full", done)
	}
}

// As many cells as there may be, once.
func TestPassOfTheMostCells(t *testing.T) {
	c := config.Config{Capacity: 64, Batch: 16, Kicks: 1, Spill: 32, Table: 128, Slots: 2, Stash: 40, Levels: 1}
	var ranks []uint64
	for i := range 80 {
		ranks = append(ranks, uint64(i*37%80))
	}
	l := named(ranks...)
	var gone []int
	for rank := range uint64(16) {
		gone = append(gone, slices.Index(ranks, rank))
	}
	checkPass(t, c, l, 3, gone...)
}

// A pass takes as many words as config.Words says that a sweep does.
func TestWordsOfAPass(t *testing.T) {
	t.Parallel()
	for _, c := range plans() {
		r := filled(t, c, named(5, 4))
		used := r.b.T.Used()
		r.b.Pass(3)
		operation, sweeps := config.Accesses(c)
		want := config.Words(c, c.Batch) - 4 - 2*c.Levels*c.Batch*operation
		if got := r.b.T.Used() - used; got != want || got != 2*c.Levels*sweeps {
			t.Errorf("%+v: %d words, not %d", c, got, want)
		}
	}
}

// On a tape that ends ahead of a pass, or within it, all goes on, with noughts.
func TestPassOnATapeThatEnds(t *testing.T) {
	t.Parallel()
	for _, c := range plans()[:4] {
		by := chance(14)
		all := by.words(100000)
		r := made(t, c, all)
		r.fill(t, named(2, 1))
		ahead := r.b.T.Used()
		r.pass(t, 1)
		behind := r.b.T.Used()
		for _, many := range []int{0, 1, 3, 4, 5, ahead - 1, ahead, ahead + 1, (ahead + behind) / 2, behind - 1, behind} {
			r := made(t, c, all[:many])
			r.fill(t, named(2, 1))
			r.pass(t, 1)
			if r.b.T.Short() != (many < behind) || r.b.T.Used() != behind {
				t.Errorf("%+v on %d words: short %v, %d were taken", c, many, r.b.T.Short(), r.b.T.Used())
			}
			gone := []int{1}[:min(max(2-c.Capacity, 0), 1)]
			r.checkLeft(t, named(2, 1), gone, 0)
		}
	}
}

// Z3.

// anyEntries are some whose Keys are unlike; some expired at the time, some have no end.
func anyEntries(by *chance, many int, now uint64) []entry {
	var l []entry
	seen := map[uint64]int{}
	for len(l) < many {
		rank := by.word() >> (2 + by.below(60))
		if seen[rank]++; seen[rank] > 1 {
			continue
		}
		e := entry{key: "k" + strconv.Itoa(len(l)*1000+by.below(1000)), value: strconv.Itoa(by.below(100)), rank: rank, uses: uint64(by.below(5))}
		if by.below(3) == 0 {
			e.until = max(now+uint64(by.below(5)), 3) - 2
		}
		l = append(l, e)
	}
	return l
}

// Just policy.Victims are gone, in their order; all others are found as before.
func TestJustTheVictimsAreGone(t *testing.T) {
	t.Parallel()
	by := chance(99)
	var went [5]int
	for i := range 200 {
		c := small(1+by.below(6), 1+by.below(4))
		now := uint64(by.below(50))
		cells := cellsOf(c)
		l := anyEntries(&by, cells, now)
		r := made(t, c, by.words(4000))
		// Some cells are free.
		var items []policy.Item
		var kept []int
		many := by.below(cells + 1)
		for _, cell := range someOf(&by, cells, many) {
			if !r.insert(t, l[cell].key, cell) {
				continue
			}
			r.put(cell, l[cell].data())
			kept = append(kept, cell)
			items = append(items, policy.Item{Cell: cell, Rank: l[cell].rank, Expired: l[cell].until != 0 && l[cell].until <= now})
		}
		r.setState(sweep.State{Resident: len(kept), Made: cells})
		gone := policy.Victims(items, c.Capacity, c.Batch)
		if got := r.pass(t, now); got != len(gone) {
			t.Errorf("%d: Pass = %d, not %d", i, got, len(gone))
		}
		went[len(gone)]++
		head := 0
		if len(gone) > 0 {
			head = gone[len(gone)-1] + 1
		}
		if got := r.b.State(); got != (sweep.State{Head: head, Resident: len(kept) - len(gone), Made: cells}) {
			t.Errorf("%d: the state is %+v", i, got)
		}
		for _, cell := range kept {
			at, d := r.b.X.Find(text(l[cell].key)), r.look(cell)
			behind := slices.Index(gone, cell)
			if behind < 0 && (at.Table < 0 || at.Cell != uint64(cell) || d != l[cell].data()) {
				t.Errorf("%d: %q is not found as before", i, l[cell].key)
			}
			if behind >= 0 && (at.Table >= 0 || d != free(append([]int{-1}, gone...)[behind]+1)) {
				t.Errorf("%d: %q is not gone", i, l[cell].key)
			}
		}
		r.notOver(t)
	}
	for many, times := range went {
		if times == 0 {
			t.Errorf("%d never went", many)
		}
	}
}

// someOf are so many of the first cells, in no order.
func someOf(by *chance, cells, many int) []int {
	var l []int
	for cell := range cells {
		l = append(l, cell)
	}
	for i := range l {
		j := i + by.below(len(l)-i)
		l[i], l[j] = l[j], l[i]
	}
	return l[:many]
}

// life is a cache by plain lists, batch after batch: who is in which cell, and which cells are free, the next one last.
type life struct {
	*pair
	in    []*entry
	free  []int
	made  int
	names int
}

// enter puts a new entry into the next free cell, as a cache does.
func (f *life) enter(t *testing.T, e entry) {
	t.Helper()
	cell, head := f.made, 0
	if len(f.free) > 0 {
		cell = f.free[len(f.free)-1]
	}
	if !f.insert(t, e.key, cell) {
		return
	}
	if len(f.free) > 0 {
		f.free = f.free[:len(f.free)-1]
	} else {
		f.made++
	}
	f.put(cell, e.data())
	f.in[cell] = &e
	if len(f.free) > 0 {
		head = f.free[len(f.free)-1] + 1
	}
	f.setState(sweep.State{Head: head, Resident: f.resident(), Made: f.made})
}

func (f *life) resident() int {
	many := 0
	for _, e := range f.in {
		if e != nil {
			many++
		}
	}
	return many
}

// end is that of a batch.
func (f *life) end(t *testing.T, now uint64) {
	t.Helper()
	var items []policy.Item
	for cell, e := range f.in {
		if e != nil {
			items = append(items, policy.Item{Cell: cell, Rank: e.rank, Expired: e.until != 0 && e.until <= now})
		}
	}
	victims := policy.Victims(items, f.w.c.Capacity, f.w.c.Batch)
	if got := f.pass(t, now); got != len(victims) {
		t.Errorf("at %d: Pass = %d, not %d", now, got, len(victims))
	}
	for _, cell := range victims {
		if f.find(f.in[cell].key).Table >= 0 {
			t.Errorf("at %d: %q is found", now, f.in[cell].key)
		}
		f.in[cell] = nil
		f.free = append(f.free, cell)
	}
	if many := f.resident(); many > f.w.c.Capacity {
		t.Errorf("at %d: %d are left", now, many)
	}
	f.checkCells(t, now)
}

// checkCells asks each cell, and who is free behind whom.
func (f *life) checkCells(t *testing.T, now uint64) {
	t.Helper()
	for cell, e := range f.in {
		if e == nil {
			continue
		}
		if at := f.find(e.key); at.Table < 0 || at.Cell != uint64(cell) || f.look(cell) != e.data() {
			t.Errorf("at %d: %q is at %+v", now, e.key, at)
		}
	}
	s := f.b.State()
	f.w.m.Read(0, 0)
	if s.Resident != f.resident() || s.Made != f.made {
		t.Errorf("at %d: the state is %+v", now, s)
	}
	for at := len(f.free) - 1; at >= 0; at-- {
		if s.Head != f.free[at]+1 {
			t.Fatalf("at %d: cell %d is free, not cell %d", now, s.Head-1, f.free[at])
		}
		d := f.look(f.free[at])
		s.Head = int(d[6])
		if d != free(s.Head) {
			t.Errorf("at %d: cell %d is %x", now, f.free[at], d)
		}
	}
	if s.Head != 0 {
		t.Errorf("at %d: cell %d is free", now, s.Head-1)
	}
	f.notOver(t)
}

func TestBatchBehindBatch(t *testing.T) {
	t.Parallel()
	for i, c := range plans()[:7] {
		by := chance(i + 1)
		f := &life{pair: made(t, c, by.words(100000)), in: make([]*entry, cellsOf(c))}
		now := uint64(0)
		for range 6 {
			for range c.Batch {
				now++
				if by.below(5) == 0 {
					continue
				}
				f.names++
				e := entry{key: "n" + strconv.Itoa(f.names), value: "v", rank: now, uses: 1}
				if by.below(3) == 0 {
					e.until = now + uint64(by.below(2*c.Batch)) + 1
				}
				f.enter(t, e)
			}
			f.end(t, now)
		}
	}
}

// On a tape of noughts all ways are alike: then all looks are, whatever is in the cells, whoever goes, and whatever the time is.
func TestEventsDoNotHangOnWhatIsInTheCells(t *testing.T) {
	t.Parallel()
	for _, c := range plans()[:4] {
		var first []api.Event
		all := named(9, 8, 7, 6, 5, 4, 3, 2, 1)[:min(cellsOf(c), 4)]
		expired := until(all, 1, 1, 1, 1)
		garbage := api.Data{5, 6, 7, 8, 9, 10, 11, 12}
		for i, l := range [][]entry{nil, all[:1], all, expired[:1], expired, append(slices.Clone(expired[:1]), all[1:]...)} {
			for _, now := range []uint64{0, 1, greatest} {
				for _, d := range []api.Data{{}, garbage, free(3)} {
					b := newBox(t, c, nil)
					for cell := range cellsOf(c) {
						b.S.Access(level.Put, b.Block(cell), d)
						if cell < len(l) {
							b.X.Insert(text(l[cell].key), uint64(cell), true)
							b.S.Access(level.Put, b.Block(cell), l[cell].data())
						}
					}
					b.SetState(sweep.State{Head: i, Resident: len(l), Made: i})
					from, gone, used := b.M.Many(), len(b.S.Leaves()), b.T.Used()
					b.Pass(now)
					events := b.M.Since(from)
					if first == nil {
						first = events
					}
					if !slices.Equal(events, first) {
						t.Errorf("%+v: with %+v and %x it looks otherwise", c, l, d)
					}
					if len(b.S.Leaves())-gone != c.Levels*accessesOf(c) || b.T.Used()-used != 2*c.Levels*accessesOf(c) {
						t.Errorf("%+v: %d ways", c, len(b.S.Leaves())-gone)
					}
				}
			}
		}
	}
}

// Behind a stash that ran over all goes on alike.
func TestPassWithAStashThatRanOver(t *testing.T) {
	t.Parallel()
	over := 0
	for i := range 20 {
		c := config.Config{Capacity: 4, Batch: 3, Kicks: 2, Spill: 8, Table: 8, Slots: 1, Stash: 1, Levels: 1 + i%2}
		by := chance(i)
		r := made(t, c, by.words(4000))
		for cell, e := range named(7, 6, 5, 4, 3, 2, 1) {
			r.insert(t, e.key, cell)
			r.put(cell, e.data())
		}
		r.setState(sweep.State{Resident: 7, Made: 7})
		for now := range uint64(3) {
			r.pass(t, now)
		}
		if r.b.S.Over() {
			over++
		}
	}
	if over == 0 {
		t.Error("no stash ran over")
	}
}

// P4.
func TestTheSameCallsMakeTheSame(t *testing.T) {
	by := chance(21)
	words := by.words(5000)
	one, other := filledBox(t, words), filledBox(t, words)
	// What is done with one box is not seen by another.
	newBox(t, some(), words).Pass(9)
	for now := range uint64(4) {
		if got := one.Pass(now); got != other.Pass(now) {
			t.Errorf("Pass(%d) tells two things", now)
		}
	}
	if one.State() != other.State() || !slices.Equal(one.M.Trace(), other.M.Trace()) || !slices.Equal(one.S.Sources(), other.S.Sources()) {
		t.Error("the boxes are not the same")
	}
}

func filledBox(t *testing.T, words []uint64) *sweep.Box {
	t.Helper()
	b := newBox(t, some(), words)
	for cell, e := range until(named(3, 1, 4, 2), 0, 2, 0, 3) {
		b.X.Insert(text(e.key), uint64(cell), true)
		b.S.Access(level.Put, b.Block(cell), e.data())
	}
	b.SetState(sweep.State{Resident: 4, Made: 4})
	return b
}

// P1: whatever is handed in, and whatever the memory says, each call ends, and does not panic.
func TestAnythingIsHandedIn(t *testing.T) {
	t.Parallel()
	ints := []int{math.MinInt, math.MinInt + 1, -1 << 32, -1 << 31, -2, -1, 0, 1, 1 << 31, 1<<31 + 1, 1 << 32, 1 << 62, math.MaxInt - 1, math.MaxInt}
	for i, n := range ints {
		c := small(2, 2)
		r := filled(t, c, named(4, 3, 2, 1))
		b := r.b
		b.Block(n)
		b.SetState(sweep.State{Head: n, Resident: ints[(i+5)%len(ints)], Made: ints[(i+9)%len(ints)]})
		b.State()
		for _, now := range []uint64{0, 1, 1 << 63, greatest} {
			gone := len(b.S.Leaves())
			if got := b.Pass(now); got != 2 && now == 0 {
				t.Errorf("Head %d: Pass = %d", n, got)
			}
			if ways := b.S.Leaves()[gone:]; len(ways) != accessesOf(c) || b.M.Fault() {
				t.Errorf("Head %d: %d ways, fault %v", n, len(ways), b.M.Fault())
			}
		}
	}
}

func TestCellsThatNoBoxMakes(t *testing.T) {
	t.Parallel()
	by := chance(13)
	words := []uint64{0, 1, 2, 3, 4, 1 << 32, 1 << 60, 1 << 62, 1 << 63, greatest - 1, greatest, text("k"), text("v")}
	for _, c := range plans()[:4] {
		for range 3 {
			b := newBox(t, c, by.words(400))
			for region := range sizesOf(c) {
				for at := range b.M.Size(region) {
					var cell api.Cell
					for i := range cell {
						cell[i] = words[by.below(len(words))]
					}
					b.M.Write(region, at, cell)
				}
			}
			for _, now := range []uint64{0, 3, 1 << 62, greatest} {
				gone := len(b.S.Leaves())
				many := b.Pass(now)
				ways := b.S.Leaves()[gone:]
				if len(ways) != accessesOf(c)*c.Levels || b.M.Fault() || many < 0 || many > c.Batch {
					t.Errorf("%+v: %d ways, fault %v, %d", c, len(ways), b.M.Fault(), many)
				}
			}
		}
	}
}

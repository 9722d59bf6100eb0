package sweep_test

import (
	"math"
	"slices"
	"testing"

	"shellgame/api"
	"shellgame/config"
	"shellgame/cuckoo"
	"shellgame/hash"
	"shellgame/level"
	"shellgame/mem"
	"shellgame/scan"
	"shellgame/sort"
	"shellgame/store"
	"shellgame/sweep"
	"shellgame/tape"
)

const (
	greatest = math.MaxUint64
	// lasting is what an entry that is not expired has more.
	lasting = 4611686018427387904
	blank   = 9223372036854775808
)

// chance makes numbers without a pattern, the same ones in each run.
type chance uint64

func (c *chance) below(n int) int {
	*c = *c*6364136223846793005 + 1442695040888963407
	return int(uint64(*c)>>33) % n
}

func (c *chance) yes() bool { return c.below(2) == 1 }

func (c *chance) word() uint64 {
	return uint64(c.below(1<<31))<<33 + uint64(c.below(1<<31))<<2 + uint64(c.below(4))
}

func (c *chance) words(n int) []uint64 {
	l := make([]uint64, n)
	for i := range l {
		l[i] = c.word()
	}
	return l
}

// plans are right configs whose stores are not over in what is asked here; of some the sweep's region has no cells but those of the cache.
func plans() []config.Config {
	return []config.Config{
		{Capacity: 1, Batch: 1, Kicks: 1, Spill: 1, Table: 2, Slots: 1, Stash: 8, Levels: 1, Policy: config.LRU},
		{Capacity: 2, Batch: 1, Kicks: 2, Spill: 2, Table: 4, Slots: 2, Stash: 12, Levels: 2, Policy: config.FIFO},
		{Capacity: 3, Batch: 2, Kicks: 3, Spill: 4, Table: 8, Slots: 2, Stash: 19, Levels: 2, Policy: config.LFU},
		{Capacity: 1, Batch: 3, Kicks: 1, Spill: 3, Table: 4, Slots: 1, Stash: 20, Levels: 3, Policy: config.LFU},
		{Capacity: 4, Batch: 3, Kicks: 2, Spill: 1, Table: 8, Slots: 2, Stash: 18, Levels: 4, Policy: config.FIFO},
		{Capacity: 6, Batch: 2, Kicks: 4, Spill: 32, Table: 8, Slots: 2, Stash: 19, Levels: 1, Policy: config.LRU},
		{Capacity: 8, Batch: 5, Kicks: 16, Spill: 3, Table: 16, Slots: 2, Stash: 17, Levels: 1, Policy: config.LRU},
		{Capacity: 1, Batch: 16, Kicks: 2, Spill: 9, Table: 32, Slots: 2, Stash: 40, Levels: 1, Policy: config.LFU},
		{Capacity: 31, Batch: 1, Kicks: 4, Spill: 5, Table: 32, Slots: 4, Stash: 30, Levels: 1, Policy: config.FIFO},
	}
}

func cellsOf(c config.Config) int { return c.Capacity + c.Batch }

func nextPower(n int) int {
	for _, p := range []int{1, 2, 4, 8, 16, 32, 64, 128, 256, 512, 1024} {
		if p >= n {
			return p
		}
	}
	return 0
}

func storeOf(c config.Config) store.Config {
	return store.Config{Blocks: nextPower(c.Table + c.Table + cellsOf(c)), Slots: c.Slots, Stash: c.Stash, Levels: c.Levels}
}

// sizesOf are those of all regions.
func sizesOf(c config.Config) []int {
	return append([]int{1, c.Spill, nextPower(cellsOf(c))}, store.Sizes(storeOf(c))...)
}

// text is the word of one that has at most seven bytes.
func text(s string) uint64 {
	n := uint64(len(s)) << 56
	for i := range len(s) {
		n += uint64(s[i]) << (8 * i)
	}
	return n
}

func isText(n uint64) bool {
	many := n >> 56
	return many <= 7 && (n-many<<56)>>(8*many) == 0
}

// isUsed tells whether it is the block of a slot that is used.
func isUsed(d api.Data) bool {
	return d[0] == 1 && isText(d[1]) && isText(d[2]) && d[6] == 0 && d[7] == 0
}

// entry is one of a cache, by itself.
type entry struct {
	key, value        string
	rank, until, uses uint64
}

func (e entry) data() api.Data {
	return api.Data{1, text(e.key), text(e.value), e.until, e.rank, e.uses}
}

// free is the block of a cell that is not used.
func free(next int) api.Data { return api.Data{6: uint64(next)} }

// twin does what the chapter says on a memory, a store and an index of its own, from numbers that are written out: slots are told word by word, and the network is two loops.
type twin struct {
	c config.Config
	m *mem.Memory
	t *tape.Tape
	s *store.Store
	x *cuckoo.Index
}

func newTwin(t *testing.T, c config.Config, words []uint64) *twin {
	t.Helper()
	w := &twin{c: c, t: tape.New(words)}
	var first [4]uint64
	for i := range first {
		first[i], _ = w.t.Next()
	}
	var e [3]api.Errno
	w.m, e[0] = mem.New(sizesOf(c))
	w.s, e[1] = store.New(w.m, 3, storeOf(c), w.t)
	w.x, e[2] = cuckoo.New(w.s, w.m, 1, c.Table, c.Kicks, hash.Hash{A: first[0], B: first[1], C: first[2], D: first[3]})
	if e != [3]api.Errno{} {
		t.Fatalf("%+v: %v", c, e)
	}
	return w
}

func (w *twin) block(cell uint64) uint64 { return uint64(w.c.Table) + uint64(w.c.Table) + cell }

func (w *twin) blank() { w.s.Access(level.Look, 0, api.Data{}) }

// lay writes the sweep's region, and tells how many entries there are, and how many of them are expired.
func (w *twin) lay(now uint64) (used, expired int) {
	for k := range uint64(nextPower(cellsOf(w.c))) {
		if k >= uint64(cellsOf(w.c)) {
			w.m.Write(2, int(k), api.Cell{blank + k})
			continue
		}
		d, _ := w.s.Access(level.Look, w.block(k), api.Data{})
		c := api.Cell{blank + k, k}
		if isUsed(d) {
			used++
			c = api.Cell{d[4] % lasting, k, d[1]}
			if d[3] > now || d[3] == 0 {
				c[0] += lasting
			} else {
				expired++
			}
		}
		w.m.Write(2, int(k), c)
	}
	return used, expired
}

func (w *twin) order() {
	size := nextPower(cellsOf(w.c))
	for k := 2; k <= size; k *= 2 {
		for j := k / 2; j >= 1; j /= 2 {
			for i := range size {
				if i&j != 0 {
					continue
				}
				a, b := w.m.Read(2, i), w.m.Read(2, i+j)
				if a[0] > b[0] && i&k == 0 || a[0] < b[0] && i&k != 0 {
					a, b = b, a
				}
				w.m.Write(2, i, a)
				w.m.Write(2, i+j, b)
			}
		}
	}
}

// manyOf is how many go.
func (w *twin) manyOf(used, expired int) int {
	many := used - w.c.Capacity
	if many < expired {
		many = expired
	}
	if many > w.c.Batch {
		many = w.c.Batch
	}
	return many
}

func (w *twin) pass(now uint64) int {
	state := w.m.Read(0, 0)
	many := w.manyOf(w.lay(now))
	w.order()
	for j := range w.c.Batch {
		l := w.m.Read(2, j)
		w.x.Remove(l[2], w.x.Find(l[2]), j < many)
		if j >= many {
			w.blank()
			continue
		}
		w.s.Access(level.Put, w.block(l[1]), api.Data{6: state[0]})
		state[0] = l[1] + 1
		state[1]--
	}
	w.m.Write(0, 0, api.Cell{state[0], state[1], state[2]})
	return many
}

// pair is a box and a twin, on tapes of the same words.
type pair struct {
	b *sweep.Box
	w *twin
	// How many events were held against each other.
	seen int
}

func made(t *testing.T, c config.Config, words []uint64) *pair {
	t.Helper()
	b, e := sweep.New(c, words)
	if b == nil || e != api.OK {
		t.Fatalf("New(%+v): %v", c, e)
	}
	return &pair{b: b, w: newTwin(t, c, words)}
}

// put lays a block for a cell, insert makes an entry of the index.
func (r *pair) put(cell int, d api.Data) {
	r.b.S.Access(level.Put, uint64(2*r.w.c.Table+cell), d)
	r.w.s.Access(level.Put, r.w.block(uint64(cell)), d)
}

func (r *pair) insert(t *testing.T, key string, cell int) bool {
	t.Helper()
	got, want := r.b.X.Insert(text(key), uint64(cell), true), r.w.x.Insert(text(key), uint64(cell), true)
	if got != want {
		t.Errorf("Insert(%q, %d) = %v", key, cell, got)
	}
	return got
}

func (r *pair) setState(s sweep.State) {
	r.b.SetState(s)
	r.w.m.Write(0, 0, api.Cell{uint64(s.Head), uint64(s.Resident), uint64(s.Made)})
}

// fill enters these, from cell 0 on, as the only ones that ever were.
func (r *pair) fill(t *testing.T, l []entry) {
	t.Helper()
	for cell, e := range l {
		if !r.insert(t, e.key, cell) {
			t.Fatalf("%q is refused", e.key)
		}
		r.put(cell, e.data())
	}
	r.setState(sweep.State{Resident: len(l), Made: len(l)})
}

func filled(t *testing.T, c config.Config, l []entry) *pair {
	t.Helper()
	by := chance(c.Table*1000 + len(l))
	r := made(t, c, by.words(100000))
	r.fill(t, l)
	return r
}

// looks are the events of a pass that goes these ways.
func looks(c config.Config, ways []int) []api.Event {
	access := func() []api.Event {
		l := store.Events(3, storeOf(c), ways[:c.Levels])
		ways = ways[c.Levels:]
		return l
	}
	events := []api.Event{{Region: 0, At: 0}}
	size := nextPower(cellsOf(c))
	for k := range size {
		if k < cellsOf(c) {
			events = append(events, access()...)
		}
		events = append(events, api.Event{Region: 2, At: k, Write: true})
	}
	events = append(events, sort.Events(2, size)...)
	for j := range c.Batch {
		events = append(events, api.Event{Region: 2, At: j})
		events = append(events, slices.Concat(access(), access(), scan.Reads(1, c.Spill))...)
		events = append(events, slices.Concat(access(), scan.Writes(1, c.Spill), access())...)
	}
	return append(events, api.Event{Region: 0, At: 0, Write: true})
}

// accessesOf is how many a pass makes.
func accessesOf(c config.Config) int { return c.Capacity + c.Batch + 4*c.Batch }

// pass is one of both, at a time: what is told, each way, each word, each event and each cell are held against each other.
func (r *pair) pass(t *testing.T, now uint64) int {
	t.Helper()
	c := r.w.c
	from, gone, used := r.b.M.Many(), len(r.b.S.Leaves()), r.b.T.Used()
	got, want := r.b.Pass(now), r.w.pass(now)
	if got != want {
		t.Errorf("%+v: Pass(%d) = %d, not %d", c, now, got, want)
	}
	ways := r.b.S.Leaves()[gone:]
	if len(ways) != accessesOf(c)*c.Levels || r.b.T.Used()-used != 2*len(ways) {
		t.Fatalf("%+v: %d ways, %d words", c, len(ways), r.b.T.Used()-used)
	}
	if !slices.Equal(r.b.M.Since(from), looks(c, ways)) {
		t.Errorf("%+v: Pass(%d) looks otherwise", c, now)
	}
	r.check(t)
	return got
}

// check holds all that both are against each other.
func (r *pair) check(t *testing.T) {
	t.Helper()
	if !slices.Equal(r.b.M.Since(r.seen), r.w.m.Since(r.seen)) {
		t.Errorf("%+v: the events are not the same", r.w.c)
	}
	r.seen = r.b.M.Many()
	if !slices.Equal(r.b.S.Sources(), r.w.s.Sources()) || !slices.Equal(r.b.S.Leaves(), r.w.s.Leaves()) {
		t.Errorf("%+v: the ways are not the same", r.w.c)
	}
	if !slices.Equal(r.b.S.Counts(), r.w.s.Counts()) || r.b.S.Over() != r.w.s.Over() {
		t.Errorf("%+v: %v blocks, not %v", r.w.c, r.b.S.Counts(), r.w.s.Counts())
	}
	if r.b.T.Used() != r.w.t.Used() || r.b.T.Short() != r.w.t.Short() {
		t.Errorf("%+v: %d words, not %d", r.w.c, r.b.T.Used(), r.w.t.Used())
	}
	for region := range sizesOf(r.w.c) {
		if got, want := inRegion(r.b.M, region), inRegion(r.w.m, region); !slices.Equal(got, want) {
			t.Errorf("%+v: region %d is\n%x, not\n%x", r.w.c, region, got, want)
		}
	}
	if r.b.M.Fault() {
		t.Errorf("%+v: a cell was looked at that there is not", r.w.c)
	}
}

func inRegion(m *mem.Memory, region int) []api.Cell {
	l := make([]api.Cell, m.Size(region))
	for at := range l {
		l[at] = m.Read(region, at)
	}
	return l
}

// notOver asks that no block was lost.
func (r *pair) notOver(t *testing.T) {
	t.Helper()
	if r.b.S.Over() {
		t.Fatalf("%+v: the store is over", r.w.c)
	}
}

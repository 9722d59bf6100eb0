package cuckoo_test

import (
	"maps"
	"math"
	"slices"
	"testing"

	"shellgame/api"
	"shellgame/cuckoo"
	"shellgame/hash"
	"shellgame/level"
	"shellgame/mem"
	"shellgame/store"
	"shellgame/tape"
)

const (
	greatest    = math.MaxUint64
	greatestKey = 1<<60 - 1
)

// chance makes numbers below a bound, without a pattern, the same ones in each run.
type chance uint64

func (c *chance) below(n int) int {
	*c = *c*6364136223846793005 + 1442695040888963407
	return int(uint64(*c)>>33) % n
}

func (c *chance) word() uint64 {
	return uint64(c.below(1<<31))<<33 + uint64(c.below(1<<31))<<2 + uint64(c.below(4))
}

func (c *chance) words(n int) []uint64 {
	l := make([]uint64, n)
	for i := range l {
		l[i] = c.word()
	}
	return l
}

// kept is an entry, by itself.
type kept struct{ key, cell uint64 }

func (k kept) data() api.Data { return api.Data{1, k.key + 1, k.cell} }

func (k kept) inCell() api.Cell { return api.Cell{1, k.key + 1, k.cell} }

// ask is what an access of the store is handed.
type ask struct {
	op int
	id uint64
	d  api.Data
}

func blank() ask { return ask{op: level.Look} }

// says is what a call makes of the store, ahead of the spill and behind it.
type says struct{ ahead, behind []ask }

// twin does what the chapter says with plain lists: places are told by the key's own words, who is driven out by recursion, and a refused Insert by what was there before.
type twin struct {
	size, kicks int
	h           hash.Hash
	tables      [2]map[uint64]kept
	spill       []*kept
}

func newTwin(p plan) *twin {
	return &twin{size: p.table, kicks: p.kicks, h: p.h, tables: [2]map[uint64]kept{{}, {}}, spill: make([]*kept, p.spill)}
}

func (w *twin) place(table int, key uint64) uint64 {
	return uint64(hash.At(w.h, table, key, w.size))
}

func (w *twin) block(table int, key uint64) uint64 {
	if table == 1 {
		return uint64(w.size) + w.place(1, key)
	}
	return w.place(0, key)
}

func (w *twin) find(key uint64) (cuckoo.Spot, says) {
	s := says{ahead: []ask{{op: level.Look, id: w.block(0, key)}, {op: level.Look, id: w.block(1, key)}}}
	for table := 0; table < 2; table++ {
		at := w.place(table, key)
		if k, is := w.tables[table][at]; is && k.key == key {
			return cuckoo.Spot{Table: table, At: at, Cell: k.cell}, s
		}
	}
	for at, k := range w.spill {
		if k != nil && k.key == key {
			return cuckoo.Spot{Table: 2, At: uint64(at), Cell: k.cell}, s
		}
	}
	return cuckoo.Spot{Table: -1}, s
}

// carry puts an entry (nil: none is carried), and then what it drove out; it tells all asks, those that undo them, and who is carried at the end.
func (w *twin) carry(k *kept, table, left int) (asks, undo []ask, still *kept) {
	if left == 0 {
		return nil, nil, k
	}
	now, back := blank(), blank()
	var out *kept
	if k != nil {
		id, at := w.block(table, k.key), w.place(table, k.key)
		now, back = ask{level.Put, id, k.data()}, ask{level.Put, id, api.Data{}}
		if was, is := w.tables[table][at]; is {
			out, back.d = &was, was.data()
		}
		w.tables[table][at] = *k
	}
	asks, undo, still = w.carry(out, 1-table, left-1)
	return append([]ask{now}, asks...), append(undo, back), still
}

func (w *twin) insert(key, cell uint64, on bool) (bool, says) {
	were := [2]map[uint64]kept{maps.Clone(w.tables[0]), maps.Clone(w.tables[1])}
	var first *kept
	if on {
		first = &kept{key, cell}
	}
	asks, undo, still := w.carry(first, 0, w.kicks)
	if free := slices.Index(w.spill, nil); still != nil && free >= 0 {
		w.spill[free], still = still, nil
	}
	if still == nil {
		return true, says{asks, slices.Repeat([]ask{blank()}, w.kicks)}
	}
	w.tables = were
	return false, says{asks, undo}
}

func (w *twin) remove(key uint64, at cuckoo.Spot, on bool) says {
	switch {
	case !on:
	case at.Table == 0, at.Table == 1:
		delete(w.tables[at.Table], w.place(at.Table, key))
		return says{ahead: []ask{{op: level.Drop, id: w.block(at.Table, key)}}}
	case at.Table == 2 && at.At < uint64(len(w.spill)):
		w.spill[at.At] = nil
	}
	return says{ahead: []ask{blank()}}
}

func (w *twin) spillIsFull() bool { return !slices.Contains(w.spill, nil) }

// plan is what an index is made of, and where in a memory it lies.
type plan struct {
	c                   store.Config
	spill, table, kicks int
	region, first       int
	h                   hash.Hash
}

// sizes are those of all regions; those that are of no use have three cells.
func (p plan) sizes() []int {
	own := store.Sizes(p.c)
	l := slices.Repeat([]int{3}, max(p.first+len(own), p.region+1))
	copy(l[p.first:], own)
	l[p.region] = p.spill
	return l
}

// pair is an index, and a twin; what the twin says is asked of another store, on a tape of the same words.
type pair struct {
	plan
	m, m2 *mem.Memory
	t, t2 *tape.Tape
	s, s2 *store.Store
	x     *cuckoo.Index
	w     *twin
}

func memory(t *testing.T, sizes ...int) *mem.Memory {
	t.Helper()
	m, e := mem.New(sizes)
	if e != api.OK {
		t.Fatalf("mem.New(%v): %v", sizes, e)
	}
	return m
}

func stored(t *testing.T, m *mem.Memory, p plan, x *tape.Tape) *store.Store {
	t.Helper()
	s, e := store.New(m, p.first, p.c, x)
	if e != api.OK {
		t.Fatalf("store.New of %+v: %v", p, e)
	}
	return s
}

func made(t *testing.T, p plan, words []uint64) *pair {
	t.Helper()
	r := &pair{plan: p, m: memory(t, p.sizes()...), m2: memory(t, p.sizes()...), t: tape.New(words), t2: tape.New(words), w: newTwin(p)}
	r.s, r.s2 = stored(t, r.m, p, r.t), stored(t, r.m2, p, r.t2)
	x, e := cuckoo.New(r.s, r.m, p.region, p.table, p.kicks, p.h)
	if x == nil || e != api.OK {
		t.Fatalf("New of %+v: %v", p, e)
	}
	r.x = x
	return r
}

func reads(region, cells int) []api.Event {
	var l []api.Event
	for at := 0; at < cells; at++ {
		l = append(l, api.Event{Region: region, At: at})
	}
	return l
}

func writes(region, cells int) []api.Event {
	var l []api.Event
	for at := 0; at < cells; at++ {
		l = append(l, api.Event{Region: region, At: at}, api.Event{Region: region, At: at, Write: true})
	}
	return l
}

// looks are the events of a call that goes these ways: so many accesses, the spill's, and all others.
func (r *pair) looks(ways []int, ahead int, spill []api.Event) []api.Event {
	cut := ahead * r.c.Levels
	return slices.Concat(store.Events(r.first, r.c, ways[:cut]), spill, store.Events(r.first, r.c, ways[cut:]))
}

// check does a call, lets the twin's store be asked what the twin says, and holds ways, words and all events against each other.
func (r *pair) check(t *testing.T, name string, spill []api.Event, many int, call func() says) {
	t.Helper()
	from, gone := r.m.Many(), len(r.s.Leaves())
	s := call()
	events, ways := r.m.Since(from), r.s.Leaves()[gone:]
	for _, a := range slices.Concat(s.ahead, s.behind) {
		r.s2.Access(a.op, a.id, a.d)
	}
	if len(ways) != many*r.c.Levels || len(s.ahead)+len(s.behind) != many {
		t.Fatalf("%s: %d ways, not %d accesses' ones", name, len(ways), many)
	}
	if !slices.Equal(r.s.Leaves(), r.s2.Leaves()) || !slices.Equal(r.s.Sources(), r.s2.Sources()) {
		t.Errorf("%s: ways are %v, not %v", name, ways, r.s2.Leaves()[gone:])
	}
	if r.t.Used() != r.t2.Used() {
		t.Errorf("%s: %d words were taken, not %d", name, r.t.Used(), r.t2.Used())
	}
	if !slices.Equal(events, r.looks(ways, len(s.ahead), spill)) {
		t.Errorf("%s: looks otherwise", name)
	}
}

func (r *pair) find(t *testing.T, key uint64) cuckoo.Spot {
	t.Helper()
	var got cuckoo.Spot
	r.check(t, "Find", reads(r.region, r.spill), 2, func() says {
		want, s := r.w.find(key)
		if got = r.x.Find(key); got != want {
			t.Errorf("Find(%d) = %+v, not %+v", key, got, want)
		}
		return s
	})
	return got
}

func (r *pair) insert(t *testing.T, key, cell uint64, on bool) bool {
	t.Helper()
	var got bool
	r.check(t, "Insert", append(reads(r.region, r.spill), writes(r.region, r.spill)...), 2*r.kicks, func() says {
		full := r.w.spillIsFull()
		want, s := r.w.insert(key, cell, on)
		if got = r.x.Insert(key, cell, on); got != want {
			t.Errorf("Insert(%d, %d, %v) = %v", key, cell, on, got)
		}
		if !got && !full {
			t.Errorf("Insert(%d, %d, %v) is refused, and the spill is not full", key, cell, on)
		}
		return s
	})
	return got
}

func (r *pair) remove(t *testing.T, key uint64, at cuckoo.Spot, on bool) {
	t.Helper()
	r.check(t, "Remove", writes(r.region, r.spill), 1, func() says {
		r.x.Remove(key, at, on)
		return r.w.remove(key, at, on)
	})
}

func cellsOf(m *mem.Memory, region int) []api.Cell {
	l := make([]api.Cell, m.Size(region))
	for at := range l {
		l[at] = m.Read(region, at)
	}
	return l
}

// spillCells are what the spill has to be.
func (w *twin) spillCells() []api.Cell {
	l := make([]api.Cell, len(w.spill))
	for at, k := range w.spill {
		if k != nil {
			l[at] = k.inCell()
		}
	}
	return l
}

// checkCells holds all cells of both memories against each other, and the spill against the twin's.
func (r *pair) checkCells(t *testing.T) {
	t.Helper()
	for region := range r.sizes() {
		got, want := cellsOf(r.m, region), cellsOf(r.m2, region)
		if region == r.region {
			want = r.w.spillCells()
		}
		if !slices.Equal(got, want) {
			t.Errorf("region %d is\n%x, not\n%x", region, got, want)
		}
	}
	if r.m.Fault() || r.s.Over() != r.s2.Over() {
		t.Errorf("fault %v, over %v", r.m.Fault(), r.s.Over())
	}
}

// checkBlocks looks at each block of the tables: it is what the twin's lists say.
func (r *pair) checkBlocks(t *testing.T) {
	t.Helper()
	for id := range uint64(2 * r.table) {
		var want api.Data
		if k, is := r.w.tables[id/uint64(r.table)][id%uint64(r.table)]; is {
			want = k.data()
		}
		got, _ := r.s.Access(level.Look, id, api.Data{})
		r.s2.Access(level.Look, id, api.Data{})
		if got != want {
			t.Errorf("block %d is %x, not %x", id, got, want)
		}
	}
}

func (r *pair) checkAll(t *testing.T) {
	t.Helper()
	r.checkCells(t)
	r.checkBlocks(t)
}

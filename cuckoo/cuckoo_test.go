package cuckoo_test

import (
	"math"
	"slices"
	"testing"

	"shellgame/api"
	"shellgame/cuckoo"
	"shellgame/hash"
	"shellgame/level"
	"shellgame/mem"
	"shellgame/store"
	"shellgame/tape"
)

// tables are all that are right, written out.
func tables() []int { return []int{1, 2, 4, 8, 16, 32, 64, 128} }

func someHash() hash.Hash { return hash.Of([]uint64{11, 1 << 40, greatest - 5, 3}) }

// small is an index whose store is not over in what is asked here; of the least ones it never is: the stash has room for all blocks.
func small(table, kicks, spill int) plan {
	c := store.Config{Blocks: 2 * table, Slots: 1 + table/8%2, Stash: min(2*table, 10), Levels: 1}
	return plan{c: c, spill: spill, table: table, kicks: kicks, region: 0, first: 1, h: someHash()}
}

func madeSmall(t *testing.T, table, kicks, spill int) *pair {
	t.Helper()
	by := chance(table + kicks + spill)
	return made(t, small(table, kicks, spill), by.words(2000))
}

// somePlans differ in all that a plan has; their stores are not over in what is asked here.
func somePlans() []plan {
	var l []plan
	for i, x := range []struct{ table, kicks, spill, blocks, levels, region, first int }{
		{1, 1, 1, 2, 1, 0, 1}, {1, 2, 1, 2, 1, 4, 0}, {1, 3, 2, 4, 2, 0, 1}, {1, 16, 3, 2, 1, 1, 3},
		{2, 1, 2, 4, 1, 1, 3}, {2, 2, 1, 8, 2, 1, 3}, {2, 5, 4, 4, 1, 15, 2}, {2, 16, 1, 4, 3, 12, 1},
		{4, 1, 1, 8, 1, 0, 1}, {4, 3, 2, 16, 4, 1, 3}, {4, 4, 32, 8, 2, 0, 1}, {8, 2, 3, 16, 1, 5, 1},
		{8, 5, 1, 32, 2, 1, 3}, {16, 3, 4, 32, 1, 1, 3},
	} {
		c := store.Config{Blocks: x.blocks, Slots: 1 + i%2, Stash: min(2*x.table, 8), Levels: x.levels}
		h := hash.Hash{A: uint64(i), B: uint64(i * i), C: uint64(1000 - i), D: greatest - uint64(i)}
		l = append(l, plan{c, x.spill, x.table, x.kicks, x.region, x.first, h})
	}
	return l
}

// keysAt are keys with these places in the tables, from the least on.
func keysAt(p plan, zero, one, many int) []uint64 {
	var l []uint64
	for key := uint64(0); len(l) < many; key++ {
		if hash.At(p.h, 0, key, p.table) == zero && hash.At(p.h, 1, key, p.table) == one {
			l = append(l, key)
		}
	}
	return l
}

// at is a Spot in a table, in the key's own place, or in the spill.
func (p plan) at(table int, key, cell uint64) cuckoo.Spot {
	return cuckoo.Spot{Table: table, At: uint64(hash.At(p.h, table, key, p.table)), Cell: cell}
}

func inSpill(at, cell uint64) cuckoo.Spot { return cuckoo.Spot{Table: 2, At: at, Cell: cell} }

func nowhere() cuckoo.Spot { return cuckoo.Spot{Table: -1} }

func checkFind(t *testing.T, r *pair, key uint64, want cuckoo.Spot) {
	t.Helper()
	if got := r.find(t, key); got != want {
		t.Errorf("Find(%d) = %+v, not %+v", key, got, want)
	}
}

func checkInsert(t *testing.T, r *pair, key, cell uint64, want bool) {
	t.Helper()
	if got := r.insert(t, key, cell, true); got != want {
		t.Errorf("Insert(%d, %d) = %v", key, cell, got)
	}
}

// edges are ints of all kinds.
func edges() []int {
	l := []int{math.MinInt, math.MinInt + 1, math.MinInt + 128, math.MaxInt, math.MaxInt - 1, 0, 3, 5, 6, 7, 9, 10, 12, 15, 17, 24, 96, 100, 127, 129, 192, 255, 257}
	for i := range 63 {
		l = append(l, 1<<i, 1<<i+1, 1<<i+16, -(1 << i), -(1<<i)-1, -(1<<i)+1)
	}
	slices.Sort(l)
	return slices.Compact(l)
}

// The chapter's examples.
func TestExampleOfTheChapter(t *testing.T) {
	for _, p := range somePlans() {
		r := made(t, p, nil)
		if !r.x.Insert(5, 1, true) {
			t.Error("Insert(5, 1) is refused")
		}
		at := r.x.Find(5)
		if at.Cell != 1 || at.Table < 0 {
			t.Errorf("Find(5) = %+v", at)
		}
		r.x.Remove(5, at, true)
		if got := r.x.Find(5); got != nowhere() {
			t.Errorf("Find(5) = %+v behind its Remove", got)
		}
	}
}

// I1.

// checkNew asks for an index or ErrArg, and that nothing is to be seen of either.
func checkNew(t *testing.T, s *store.Store, m *mem.Memory, x *tape.Tape, spill, table, kicks int, want api.Errno) {
	t.Helper()
	many, used := m.Many(), x.Used()
	i, e := cuckoo.New(s, m, spill, table, kicks, someHash())
	if e != want || (i != nil) != (want == api.OK) {
		t.Errorf("New(s, m, %d, %d, %d) = %v, %v, not %v", spill, table, kicks, i != nil, e, want)
	}
	if m.Many() != many || m.Fault() || x.Used() != used {
		t.Errorf("New(s, m, %d, %d, %d) is seen", spill, table, kicks)
	}
}

func errArgUnless(right bool) api.Errno {
	if right {
		return api.OK
	}
	return api.ErrArg
}

func TestNewByTable(t *testing.T) {
	r := madeSmall(t, 64, 1, 4)
	for _, table := range append(edges(), tables()...) {
		checkNew(t, r.s, r.m, r.t, 0, table, 1, errArgUnless(slices.Contains(tables(), table)))
		checkNew(t, r.s, r.m, r.t, 0, table, 16, errArgUnless(slices.Contains(tables(), table)))
	}
	for table := -300; table <= 300; table++ {
		checkNew(t, r.s, r.m, r.t, 0, table, 7, errArgUnless(slices.Contains(tables(), table)))
	}
}

func TestNewByKicks(t *testing.T) {
	r := madeSmall(t, 8, 1, 4)
	for _, kicks := range edges() {
		for _, table := range tables() {
			checkNew(t, r.s, r.m, r.t, 0, table, kicks, errArgUnless(kicks >= 1 && kicks <= 16))
		}
	}
	for kicks := -40; kicks <= 40; kicks++ {
		checkNew(t, r.s, r.m, r.t, 0, 8, kicks, errArgUnless(kicks >= 1 && kicks <= 16))
	}
}

func TestNewByRegion(t *testing.T) {
	for many := 1; many <= mem.MaxRegions; many++ {
		r := madeSmall(t, 2, 1, 1)
		for _, cells := range []int{1, 2, 32, 33, 4096} {
			m := memory(t, slices.Repeat([]int{cells}, many)...)
			for _, region := range append(edges(), 0, 1, 2, 14, 15, 16, many-1, many, many+1) {
				checkNew(t, r.s, m, r.t, region, 2, 3, errArgUnless(region >= 0 && region < many))
			}
		}
	}
}

func TestNewWithMoreThanOneThingWrong(t *testing.T) {
	r := madeSmall(t, 4, 1, 1)
	for _, region := range []int{0, -1, 9, math.MinInt, math.MaxInt} {
		for _, table := range []int{4, 0, 3, 256, math.MinInt} {
			for _, kicks := range []int{1, 0, 17, -1, math.MaxInt} {
				checkNew(t, r.s, r.m, r.t, region, table, kicks, errArgUnless(region == 0 && table == 4 && kicks == 1))
			}
		}
	}
}

// The greatest index and the least one, with all kicks, are not only made, but work.
func TestEachTableAndAllKicks(t *testing.T) {
	t.Parallel()
	for _, table := range []int{1, 2, 4} {
		for kicks := 1; kicks <= 16; kicks++ {
			r := madeSmall(t, table, kicks, 2)
			for key := range uint64(9) {
				r.insert(t, key, key+50, true)
				r.find(t, key)
			}
			r.checkAll(t)
		}
	}
	for _, table := range tables() {
		by := chance(table)
		r := made(t, small(table, 2, 32), by.words(1000))
		for i := range 20 {
			key := uint64(by.below(1 << 30))
			r.insert(t, key, uint64(i), true)
			r.find(t, key)
		}
		if r.s.Over() {
			t.Fatalf("the store of %d is over", table)
		}
		r.checkCells(t)
	}
}

// I2.

func TestFindOfNothing(t *testing.T) {
	for _, p := range somePlans() {
		r := made(t, p, nil)
		for _, key := range []uint64{0, 1, 2, 7, 1 << 31, 1 << 59, greatestKey - 1, greatestKey} {
			checkFind(t, r, key, nowhere())
		}
		r.checkAll(t)
	}
}

// putBy writes what an index would have written.
func (r *pair) putBy(table, at int, d api.Data) {
	if table == 2 {
		r.m.Write(r.region, at, api.Cell{d[0], d[1], d[2]})
		return
	}
	r.s.Access(level.Put, uint64(table*r.table+at), d)
}

// Of all subsets of the three that may have a key the first one is told; each has a cell of its own.
func TestFindTellsTheFirst(t *testing.T) {
	for _, key := range []uint64{0, 1, 77, greatestKey} {
		for subset := range 8 {
			for spillAt := range 3 {
				r := madeSmall(t, 8, 2, 3)
				want := nowhere()
				for table := 2; table >= 0; table-- {
					if subset>>table&1 == 0 {
						continue
					}
					cell := uint64(table*100) + key
					at := spillAt
					if table < 2 {
						at = hash.At(r.h, table, key, 8)
					}
					r.putBy(table, at, kept{key, cell}.data())
					want = cuckoo.Spot{Table: table, At: uint64(at), Cell: cell}
				}
				for range 2 {
					if got := r.x.Find(key); got != want {
						t.Errorf("of %03b: Find(%d) = %+v, not %+v", subset, key, got, want)
					}
				}
			}
		}
	}
}

func TestFindInTheSpillTellsTheFirst(t *testing.T) {
	r := madeSmall(t, 4, 1, 5)
	for at, k := range []kept{{8, 1}, {9, 2}, {7, 3}, {9, 4}, {7, 5}} {
		r.putBy(2, at, k.data())
	}
	for key, want := range map[uint64]cuckoo.Spot{8: inSpill(0, 1), 9: inSpill(1, 2), 7: inSpill(2, 3), 10: nowhere(), 6: nowhere()} {
		if got := r.x.Find(key); got != want {
			t.Errorf("Find(%d) = %+v, not %+v", key, got, want)
		}
	}
}

// What has a key's place, but is no entry of it.
func TestFindOfWhatIsAnother(t *testing.T) {
	const key = 40
	zero, one := hash.At(someHash(), 0, key, 8), hash.At(someHash(), 1, key, 8)
	for _, d := range []api.Data{
		{1, key, 3}, {1, key + 2, 3}, {1, 0, key + 1}, {1, 3, key + 1}, {1, key + 1 + 1<<32, 3}, {1, key + 1 + 1<<59, 3}, {1, (key + 1) << 1, 3},
		{}, {0, key + 1, 3}, {2, key + 1, 3}, {3, key + 1, 3}, {greatest, key + 1, 3}, {0, 0, 3}, {0, 0, 0, 1, key + 1, 3},
	} {
		r := madeSmall(t, 8, 2, 2)
		r.putBy(0, zero, d)
		r.putBy(1, one, d)
		r.putBy(2, 0, d)
		if got := r.x.Find(key); got != nowhere() {
			t.Errorf("Find among %v = %+v", d, got)
		}
		// The next one in the spill is told still, but if word 1 is the key's: only the first one of these is asked.
		if d[1] != key+1 {
			r.putBy(2, 1, kept{key, 9}.data())
			if got := r.x.Find(key); got != inSpill(1, 9) {
				t.Errorf("Find among %v = %+v", d, got)
			}
		}
		r.putBy(1, one, kept{key, 10}.data())
		if got := r.x.Find(key); got != (cuckoo.Spot{Table: 1, At: uint64(one), Cell: 10}) {
			t.Errorf("Find among %v = %+v", d, got)
		}
	}
}

// An entry in another place than the key's own is not found.
func TestFindLooksInTheKeysPlacesAlone(t *testing.T) {
	const key = 12
	for table := range 2 {
		for at := range 16 {
			r := madeSmall(t, 16, 1, 1)
			r.putBy(table, at, kept{key, 6}.data())
			want := nowhere()
			if at == hash.At(r.h, table, key, 16) {
				want = cuckoo.Spot{Table: table, At: uint64(at), Cell: 6}
			}
			if got := r.x.Find(key); got != want {
				t.Errorf("table %d, place %d: Find = %+v, not %+v", table, at, got, want)
			}
		}
	}
}

func TestFindChangesNothing(t *testing.T) {
	r := madeSmall(t, 2, 3, 3)
	for key := range uint64(6) {
		r.insert(t, key, 10*key, true)
	}
	for range 3 {
		for key := range uint64(9) {
			r.find(t, key)
			r.checkCells(t)
		}
	}
	r.checkAll(t)
}

// I3.

// state is where each of some keys is.
func (r *pair) state(t *testing.T, keys []uint64) []cuckoo.Spot {
	t.Helper()
	var l []cuckoo.Spot
	for _, key := range keys {
		l = append(l, r.find(t, key))
	}
	return l
}

// Three keys with one place in each table; who is where behind the third Insert hangs on the kicks.
func TestInsertDrivesOutKickBehindKick(t *testing.T) {
	t.Parallel()
	const a, b, c = 0, 1, 2
	// Who is in table 0, in table 1, in the spill.
	for kicks, where := range map[int][3]int{
		2: {c, b, a}, 3: {a, b, c}, 4: {a, c, b}, 5: {b, c, a}, 6: {b, a, c}, 7: {c, a, b}, 8: {c, b, a}, 15: {a, b, c}, 16: {a, c, b},
	} {
		p := small(8, kicks, 3)
		r := made(t, p, nil)
		keys := keysAt(p, 3, 5, 3)
		for i, key := range keys {
			checkInsert(t, r, key, uint64(i), true)
			r.checkAll(t)
		}
		for table, i := range where {
			want := inSpill(0, uint64(i))
			if table < 2 {
				want = p.at(table, keys[i], uint64(i))
			}
			checkFind(t, r, keys[i], want)
		}
	}
}

// Table 1 is never reached by one kick.
func TestInsertOfOneKick(t *testing.T) {
	p := small(8, 1, 2)
	r := made(t, p, nil)
	keys := keysAt(p, 3, 5, 4)
	for i, key := range keys {
		checkInsert(t, r, key, uint64(i), i < 3)
		r.checkAll(t)
	}
	for i, want := range []cuckoo.Spot{inSpill(0, 0), inSpill(1, 1), p.at(0, keys[2], 2), nowhere()} {
		checkFind(t, r, keys[i], want)
	}
}

// A chain through unlike places: each one that is driven out goes to its own place in the other table.
func TestInsertAlongAChain(t *testing.T) {
	p := small(8, 4, 1)
	first, second, third, fourth := keysAt(p, 0, 3, 1)[0], keysAt(p, 1, 3, 1)[0], keysAt(p, 1, 6, 1)[0], keysAt(p, 0, 7, 1)[0]
	r := made(t, p, nil)
	checkInsert(t, r, second, 2, true)
	checkFind(t, r, second, p.at(0, second, 2))
	checkInsert(t, r, third, 3, true)
	checkFind(t, r, second, p.at(1, second, 2))
	checkFind(t, r, third, p.at(0, third, 3))
	checkInsert(t, r, first, 1, true)
	checkFind(t, r, first, p.at(0, first, 1))
	// The fourth one drives out the first one, that one the second one, that one the third one, whose other place is free.
	checkInsert(t, r, fourth, 4, true)
	for key, want := range map[uint64]cuckoo.Spot{fourth: p.at(0, fourth, 4), first: p.at(1, first, 1), second: p.at(0, second, 2), third: p.at(1, third, 3)} {
		checkFind(t, r, key, want)
	}
	r.checkAll(t)
}

// If the chain is longer than the kicks the last one that is driven out is in the spill.
func TestInsertAlongAChainThatIsTooLong(t *testing.T) {
	p := small(8, 3, 1)
	first, second, third, fourth := keysAt(p, 0, 3, 1)[0], keysAt(p, 1, 3, 1)[0], keysAt(p, 1, 6, 1)[0], keysAt(p, 0, 7, 1)[0]
	r := made(t, p, nil)
	for i, key := range []uint64{second, third, first, fourth} {
		checkInsert(t, r, key, uint64(i), true)
	}
	for key, want := range map[uint64]cuckoo.Spot{fourth: p.at(0, fourth, 3), first: p.at(1, first, 2), second: p.at(0, second, 0), third: inSpill(0, 1)} {
		checkFind(t, r, key, want)
	}
	// And, if there is no room there either, all is as it was.
	other := keysAt(p, 1, 0, 1)[0]
	keys := []uint64{first, second, third, fourth, other}
	were := r.state(t, keys)
	checkInsert(t, r, other, 9, false)
	if got := r.state(t, keys); !slices.Equal(got, were) || got[4] != nowhere() {
		t.Errorf("%+v, not %+v", got, were)
	}
	r.checkAll(t)
}

func TestInsertThatIsOff(t *testing.T) {
	t.Parallel()
	for _, p := range somePlans() {
		by := chance(p.table)
		r := made(t, p, by.words(3000))
		for i := range min(2*p.table+p.spill+2, 12) {
			if !r.insert(t, uint64(i), 7, false) {
				t.Errorf("%+v: an Insert that is off is refused", p)
			}
			checkFind(t, r, uint64(i), nowhere())
			r.checkCells(t)
			r.insert(t, uint64(i), uint64(i), true)
			// Of a key that is there, and of one whose places are taken.
			at := r.find(t, uint64(i))
			r.insert(t, uint64(i), 8, false)
			checkFind(t, r, uint64(i), at)
		}
		r.checkAll(t)
	}
}

func TestInsertFillsTheSpillInOrder(t *testing.T) {
	for _, spill := range []int{1, 2, 5, 32} {
		r := madeSmall(t, 1, 2, spill)
		for key := range uint64(spill + 2) {
			checkInsert(t, r, key, key, true)
		}
		cells := map[uint64]bool{}
		for key := range uint64(spill + 2) {
			if at := r.find(t, key); at.Table == 2 {
				cells[at.At] = true
			}
		}
		if len(cells) != spill {
			t.Errorf("%d cells of %d are taken", len(cells), spill)
		}
		for range 3 {
			checkInsert(t, r, 1000, 1, false)
			checkFind(t, r, 1000, nowhere())
			r.checkAll(t)
		}
	}
}

// The first one that is free is taken, wherever it is.
func TestInsertTakesAgainWhatIsFree(t *testing.T) {
	for gone := range 5 {
		for also := range 5 {
			r := madeSmall(t, 1, 1, 5)
			// With one kick each Insert drives the one ahead to the spill.
			for key := range uint64(6) {
				checkInsert(t, r, key, 100+key, true)
			}
			checkInsert(t, r, 6, 0, false)
			for _, at := range []int{gone, also} {
				r.remove(t, uint64(at), inSpill(uint64(at), 100+uint64(at)), true)
				checkFind(t, r, uint64(at), nowhere())
			}
			free := slices.Compact(slices.Sorted(slices.Values([]int{gone, also})))
			for i, at := range free {
				checkInsert(t, r, uint64(10+i), 7, true)
				// The one that was in table 0 is there now.
				checkFind(t, r, []uint64{5, 10}[i], inSpill(uint64(at), []uint64{105, 7}[i]))
			}
			checkInsert(t, r, 20, 0, false)
			r.checkAll(t)
		}
	}
}

// Whether a cell of the spill is free is told by its word 0; one that is left as it is has all its words still.
func TestInsertAsksForWord0OfTheSpill(t *testing.T) {
	r := madeSmall(t, 1, 1, 4)
	cells := []api.Cell{{1}, {0, 5, 6, 7, 0, 0, 0, 0, 0, 0, 0, 8}, {2, 0, 0, 4}, {}}
	for at, c := range cells {
		r.m.Write(r.region, at, c)
	}
	for _, x := range []struct {
		key     uint64
		on      bool
		at      int
		becomes api.Cell
	}{{10, false, 1, cells[1]}, {10, true, 1, cells[1]}, {11, false, 1, cells[1]}, {11, true, 1, kept{10, 3}.inCell()}, {12, true, 3, kept{11, 3}.inCell()}} {
		if !r.x.Insert(x.key, 3, x.on) {
			t.Errorf("Insert(%d) is refused", x.key)
		}
		cells[x.at] = x.becomes
		if got := cellsOf(r.m, r.region); !slices.Equal(got, cells) {
			t.Errorf("behind Insert(%d, %v) the spill is %v, not %v", x.key, x.on, got, cells)
		}
	}
	if r.x.Insert(13, 3, true) || !slices.Equal(cellsOf(r.m, r.region), cells) {
		t.Errorf("there is no free cell, and the spill is %v", cellsOf(r.m, r.region))
	}
}

func TestARefusedInsertChangesNothingThatIsFound(t *testing.T) {
	t.Parallel()
	for _, table := range []int{1, 2, 4} {
		for _, kicks := range []int{1, 2, 3, 4, 7, 16} {
			for _, spill := range []int{1, 3} {
				r := madeSmall(t, table, kicks, spill)
				var keys []uint64
				refused := 0
				for key := uint64(0); refused < 3; key++ {
					keys = append(keys, key)
					if !r.w.spillIsFull() {
						checkInsert(t, r, key, key*3, true)
						continue
					}
					were := r.state(t, keys)
					if r.insert(t, key, key*3, true) {
						continue
					}
					refused++
					if got := r.state(t, keys); !slices.Equal(got, were) || got[len(keys)-1] != nowhere() {
						t.Errorf("table %d, kicks %d, spill %d: %+v, not %+v", table, kicks, spill, got, were)
					}
					r.checkAll(t)
				}
			}
		}
	}
}

// A key that is there is not asked for: there are two entries then, and the first one is told.
func TestInsertOfAKeyThatIsThere(t *testing.T) {
	r := madeSmall(t, 4, 2, 2)
	for i := range uint64(4) {
		checkInsert(t, r, 6, i, true)
		checkFind(t, r, 6, r.at(0, 6, i))
	}
	checkInsert(t, r, 6, 9, false)
	// Two of them are in the tables, the first ones are in the spill.
	for _, want := range []cuckoo.Spot{r.at(0, 6, 3), r.at(1, 6, 2), inSpill(0, 0), inSpill(1, 1), nowhere()} {
		checkFind(t, r, 6, want)
		r.remove(t, 6, want, true)
	}
	r.checkAll(t)
}

func TestKeysAndCellsAtTheEdges(t *testing.T) {
	keys := []uint64{0, 1, 1 << 31, 1<<32 - 1, 1 << 32, 1<<59 - 1, 1 << 59, greatestKey - 1, greatestKey}
	cells := []uint64{0, 1, 1<<32 - 1, 1 << 63, greatest - 1, greatest}
	for _, kicks := range []int{1, 2, 5} {
		for _, cell := range cells {
			r := madeSmall(t, 2, kicks, 9)
			for i, key := range keys {
				checkInsert(t, r, key, cell-uint64(i), true)
			}
			for i, key := range keys {
				if at := r.find(t, key); at.Table < 0 || at.Cell != cell-uint64(i) {
					t.Errorf("Find(%d) = %+v", key, at)
				}
				r.remove(t, key, r.find(t, key), true)
				checkFind(t, r, key, nowhere())
			}
			r.checkAll(t)
		}
	}
}

// What is written, word by word.
func TestCellsWrittenOut(t *testing.T) {
	r := madeSmall(t, 1, 2, 3)
	for key, cell := range map[uint64]uint64{4: 44} {
		checkInsert(t, r, key, cell, true)
	}
	checkInsert(t, r, greatestKey, 55, true)
	checkInsert(t, r, 0, greatest, true)
	blocks := []api.Data{{1, 1, greatest}, {1, 1 << 60, 55}}
	for id, want := range blocks {
		if got, there := r.s.Access(level.Look, uint64(id), api.Data{}); got != want || !there {
			t.Errorf("block %d is %v", id, got)
		}
	}
	if got := cellsOf(r.m, 0); !slices.Equal(got, []api.Cell{{1, 5, 44}, {}, {}}) {
		t.Errorf("the spill is %v", got)
	}
	r.x.Remove(4, inSpill(0, 44), true)
	r.x.Remove(0, cuckoo.Spot{}, true)
	if got := cellsOf(r.m, 0); !slices.Equal(got, make([]api.Cell, 3)) {
		t.Errorf("the spill is %v", got)
	}
	if got, there := r.s.Access(level.Look, 0, api.Data{}); got != (api.Data{}) || there {
		t.Errorf("block 0 is %v, there %v", got, there)
	}
}

// I4.

// spread is an index with a key in each table, and two in the spill; of one place each.
func spread(t *testing.T) *pair {
	t.Helper()
	r := madeSmall(t, 1, 2, 3)
	for key := range uint64(4) {
		checkInsert(t, r, key, 10+key, true)
	}
	for key, want := range []cuckoo.Spot{inSpill(0, 10), inSpill(1, 11), {Table: 1, Cell: 12}, {Table: 0, Cell: 13}} {
		checkFind(t, r, uint64(key), want)
	}
	return r
}

func TestRemoveOfEach(t *testing.T) {
	keys := []uint64{0, 1, 2, 3}
	for _, gone := range keys {
		for _, on := range []bool{true, false} {
			r := spread(t)
			want := r.state(t, keys)
			r.remove(t, gone, want[gone], on)
			if on {
				want[gone] = nowhere()
			}
			if got := r.state(t, keys); !slices.Equal(got, want) {
				t.Errorf("behind Remove of %d, %v: %+v, not %+v", gone, on, got, want)
			}
			r.checkAll(t)
		}
	}
}

// Of a Spot in a table only Table counts, of one in the spill only Table and At.
func TestRemoveByOtherSpots(t *testing.T) {
	keys := []uint64{0, 1, 2, 3}
	for _, x := range []struct {
		key  uint64
		at   cuckoo.Spot
		gone int
	}{
		{3, cuckoo.Spot{Table: 0, At: 99, Cell: 99}, 3}, {2, cuckoo.Spot{Table: 1, At: greatest}, 2}, {3, cuckoo.Spot{Table: 0, At: 1}, 3}, {2, cuckoo.Spot{Table: 1, At: 0, Cell: 11}, 2},
		{0, inSpill(0, 77), 0}, {1, inSpill(1, 0), 1}, {77, inSpill(0, 0), 0}, {greatestKey, inSpill(1, 11), 1},
		{0, inSpill(2, 10), -1}, {0, inSpill(3, 10), -1}, {0, inSpill(1<<32, 10), -1}, {1, inSpill(1<<32+1, 11), -1}, {1, inSpill(1<<63+1, 11), -1}, {0, inSpill(greatest, 10), -1},
		// Another key that has the place.
		{50, cuckoo.Spot{Table: 0}, 3}, {50, cuckoo.Spot{Table: 1}, 2},
	} {
		r := spread(t)
		want := r.state(t, keys)
		r.remove(t, x.key, x.at, true)
		if x.gone >= 0 {
			want[x.gone] = nowhere()
		}
		if got := r.state(t, keys); !slices.Equal(got, want) {
			t.Errorf("behind Remove(%d, %+v): %+v, not %+v", x.key, x.at, got, want)
		}
		r.checkAll(t)
	}
}

func TestRemoveOfNothing(t *testing.T) {
	keys := []uint64{0, 1, 2, 3}
	for _, table := range []int{-1, -2, 3, 4, 5, 255, 256, 258, 1 << 32, 1<<32 + 1, 1<<32 + 2, 1 << 62, math.MaxInt, math.MinInt, math.MinInt + 1, math.MinInt + 2} {
		for at := range uint64(3) {
			r := spread(t)
			want := r.state(t, keys)
			r.remove(t, at, cuckoo.Spot{Table: table, At: at, Cell: 10}, true)
			if got := r.state(t, keys); !slices.Equal(got, want) {
				t.Errorf("behind Remove from %d: %+v, not %+v", table, got, want)
			}
			r.checkCells(t)
		}
	}
}

func TestRemoveThatIsOff(t *testing.T) {
	keys := []uint64{0, 1, 2, 3}
	r := spread(t)
	want := r.state(t, keys)
	for table := -1; table <= 3; table++ {
		for at := range uint64(4) {
			for _, key := range keys {
				r.remove(t, key, cuckoo.Spot{Table: table, At: at, Cell: 10 + key}, false)
			}
			r.checkCells(t)
		}
	}
	if got := r.state(t, keys); !slices.Equal(got, want) {
		t.Errorf("%+v, not %+v", got, want)
	}
}

// Only the block of the key's place is dropped.
func TestRemoveFromLargerTables(t *testing.T) {
	r := madeSmall(t, 8, 3, 4)
	var keys []uint64
	for key := range uint64(14) {
		if r.insert(t, key, key, true) {
			keys = append(keys, key)
		}
	}
	want := r.state(t, keys)
	for i, key := range keys {
		r.remove(t, key, want[i], true)
		want[i] = nowhere()
		if got := r.state(t, keys); !slices.Equal(got, want) {
			t.Errorf("%+v, not %+v", got, want)
		}
		r.checkAll(t)
	}
	if got := cellsOf(r.m, r.region); !slices.Equal(got, make([]api.Cell, 4)) {
		t.Errorf("the spill is %v", got)
	}
}

// I5.

// wildSpot is any; many of them are those of a key that is there.
func (r *pair) wildSpot(t *testing.T, key uint64, by *chance) cuckoo.Spot {
	if by.below(3) > 0 {
		return r.find(t, key)
	}
	return cuckoo.Spot{Table: by.below(5) - 1, At: uint64(by.below(r.spill + 1)), Cell: by.word()}
}

func TestAllCallsAgainstTheTwin(t *testing.T) {
	t.Parallel()
	for i, p := range somePlans() {
		for _, keys := range []int{p.table, 3*p.table + p.spill, 1 << 30} {
			by := chance(100*i + keys)
			r := made(t, p, by.words(20000))
			for turn := range 40 {
				key := uint64(by.below(keys))
				switch by.below(6) {
				case 0, 1, 2:
					r.insert(t, key, by.word(), by.below(8) > 0)
				case 3, 4:
					r.find(t, key)
				case 5:
					r.remove(t, key, r.wildSpot(t, key, &by), by.below(8) > 0)
				}
				if turn%5 == 0 {
					r.checkCells(t)
				}
			}
			r.checkAll(t)
			if r.s.Over() || r.t.Short() {
				t.Fatalf("%+v: over %v, short %v", p, r.s.Over(), r.t.Short())
			}
		}
	}
}

// Without the twin: a map of keys, of which only those are inserted that are not there.
func TestAMapOfKeys(t *testing.T) {
	t.Parallel()
	for i, p := range somePlans() {
		by := chance(i)
		r := made(t, p, by.words(60000))
		cells, pool := map[uint64]uint64{}, 2*p.table+p.spill+3
		for range 50 {
			key := uint64(by.below(pool))
			if _, is := cells[key]; is {
				r.x.Remove(key, r.x.Find(key), true)
				delete(cells, key)
			} else if cell := by.word(); r.x.Insert(key, cell, true) {
				cells[key] = cell
			} else if in := r.inTheSpill(pool); in != p.spill {
				t.Errorf("%+v: Insert is refused, and %d of %d cells of the spill are taken", p, in, p.spill)
			}
			for _, key := range by.some(pool) {
				cell, is := cells[key]
				if at := r.x.Find(key); at.Cell != cell || (at.Table >= 0) != is {
					t.Fatalf("%+v: Find(%d) = %+v, not %d, %v", p, key, at, cell, is)
				}
			}
		}
		if r.s.Over() || r.m.Fault() {
			t.Fatalf("%+v: over %v, fault %v", p, r.s.Over(), r.m.Fault())
		}
	}
}

// some are all numbers below n, if there are few, else ten of them.
func (c *chance) some(n int) []uint64 {
	var l []uint64
	for i := range min(n, 10) {
		if n > 10 {
			i = c.below(n)
		}
		l = append(l, uint64(i))
	}
	return l
}

// inTheSpill is how many keys below one are found there.
func (r *pair) inTheSpill(keys int) int {
	many := 0
	for key := range uint64(keys) {
		if r.x.Find(key).Table == 2 {
			many++
		}
	}
	return many
}

// withoutLeaves leaves of the events only what does not hang on the ways.
func withoutLeaves(p plan, l []api.Event) []api.Event {
	l = slices.Clone(l)
	for i, e := range l {
		for h := range p.c.Levels {
			if e.Region == p.first+1+3*h {
				l[i].At = 0
			}
		}
	}
	return l
}

// Whatever is asked, and whatever is found: each kind of call is looked at alike, but for the leaves.
func TestCallsAreLookedAtAlike(t *testing.T) {
	t.Parallel()
	for i, p := range somePlans() {
		by := chance(i + 7)
		r := made(t, p, by.words(8000))
		var first [3][]api.Event
		var ways [3]int
		for turn := range 90 {
			key := uint64(by.below(3 * p.table))
			at := r.x.Find(key)
			from, gone, used := r.m.Many(), len(r.s.Leaves()), r.t.Used()
			kind := turn % 3
			switch kind {
			case 0:
				r.x.Find(key)
			case 1:
				r.x.Insert(key, 5, by.below(4) > 0)
			case 2:
				r.x.Remove(key, at, by.below(4) > 0)
			}
			got, many := withoutLeaves(p, r.m.Since(from)), len(r.s.Leaves())-gone
			if turn < 3 {
				first[kind], ways[kind] = got, many
			}
			if !slices.Equal(got, first[kind]) || many != ways[kind] || r.t.Used()-used != 2*many {
				t.Errorf("%+v: call %d of kind %d is looked at otherwise", p, turn, kind)
			}
		}
		if want := [3]int{2 * p.c.Levels, 2 * p.kicks * p.c.Levels, p.c.Levels}; ways != want {
			t.Errorf("%+v: ways %v, not %v", p, ways, want)
		}
	}
}

// How often each call looks at the spill, written out.
func TestLooksAtTheSpill(t *testing.T) {
	for _, spill := range []int{1, 2, 3, 32} {
		r := madeSmall(t, 2, 2, spill)
		for key := range uint64(spill + 6) {
			for kind, call := range []func(){
				func() { r.x.Find(key) },
				func() { r.x.Insert(key, 1, key%3 > 0) },
				func() { r.x.Remove(key, inSpill(key/2, 1), key%4 == 0) },
			} {
				from := r.m.Many()
				call()
				read, written := 0, 0
				for _, e := range r.m.Since(from) {
					if e.Region == r.region && e.Write {
						written++
					} else if e.Region == r.region {
						read++
					}
				}
				if want := [][2]int{{spill, 0}, {2 * spill, spill}, {spill, spill}}[kind]; read != want[0] || written != want[1] {
					t.Errorf("kind %d: %d are read, %d written, not %v", kind, read, written, want)
				}
			}
		}
	}
}

// Blocks behind those of the tables are not the index's own.
func TestOtherBlocksStayAsTheyAre(t *testing.T) {
	t.Parallel()
	p := small(4, 3, 2)
	p.c = store.Config{Blocks: 32, Slots: 2, Stash: 32, Levels: 2}
	by := chance(8)
	r := made(t, p, by.words(4000))
	for id := uint64(8); id < 32; id++ {
		d := api.Data{id, id + 1, 1, 2, 3, 4, 5, 6}
		r.s.Access(level.Put, id, d)
		r.s2.Access(level.Put, id, d)
	}
	for range 20 {
		key := uint64(by.below(20))
		r.insert(t, key, 1, true)
		r.remove(t, uint64(by.below(20)), cuckoo.Spot{Table: by.below(3), At: uint64(by.below(2))}, true)
	}
	for id := uint64(8); id < 32; id++ {
		if got, there := r.s.Access(level.Look, id, api.Data{}); got != (api.Data{id, id + 1, 1, 2, 3, 4, 5, 6}) || !there {
			t.Errorf("block %d is %v, there %v", id, got, there)
		}
	}
}

// The spill may be in another memory than the store.
func TestASpillInAMemoryOfItsOwn(t *testing.T) {
	p := small(1, 2, 2)
	own, far := memory(t, p.sizes()...), memory(t, 5, 2)
	by := chance(3)
	s := stored(t, own, p, tape.New(by.words(300)))
	x, e := cuckoo.New(s, far, 1, 1, 2, p.h)
	if x == nil || e != api.OK {
		t.Fatal(e)
	}
	for key := range uint64(6) {
		if got := x.Insert(key, key, true); got != (key < 4) {
			t.Errorf("Insert(%d) = %v", key, got)
		}
	}
	if got := x.Find(0); got != inSpill(0, 0) {
		t.Errorf("Find(0) = %+v", got)
	}
	if far.Read(1, 1) != (api.Cell{1, 2, 1}) || far.Read(0, 0) != (api.Cell{}) || own.Read(0, 0) != (api.Cell{}) || own.Fault() || far.Fault() {
		t.Error("the spill is elsewhere")
	}
}

// Each has its own tables and its own spill.
func TestTwoIndexesInOneMemory(t *testing.T) {
	p := small(2, 2, 2)
	m := memory(t, append(append([]int{2, 2}, store.Sizes(p.c)...), store.Sizes(p.c)...)...)
	by := chance(4)
	words := tape.New(by.words(2000))
	var l []*cuckoo.Index
	for i := range 2 {
		p.first = 2 + 4*i
		x, e := cuckoo.New(stored(t, m, p, words), m, i, 2, 2, p.h)
		if e != api.OK {
			t.Fatal(e)
		}
		l = append(l, x)
	}
	for key := range uint64(4) {
		if !l[0].Insert(key, key, true) || !l[1].Insert(key+2, 100+key, true) {
			t.Error(key)
		}
	}
	for key := range uint64(8) {
		if at := l[0].Find(key); (at.Table >= 0) != (key < 4) || at.Table >= 0 && at.Cell != key {
			t.Errorf("the first one: Find(%d) = %+v", key, at)
		}
		if at := l[1].Find(key); (at.Table >= 0) != (key >= 2 && key < 6) || at.Table >= 0 && at.Cell != 98+key {
			t.Errorf("the second one: Find(%d) = %+v", key, at)
		}
	}
}

// P4.
func TestTheSameCallsMakeTheSame(t *testing.T) {
	t.Parallel()
	p := somePlans()[9]
	by := chance(6)
	words := by.words(4000)
	one, other := made(t, p, words), made(t, p, words)
	for range 60 {
		key, cell, on := uint64(by.below(14)), by.word(), by.below(5) > 0
		if one.x.Insert(key, cell, on) != other.x.Insert(key, cell, on) {
			t.Errorf("Insert(%d) tells two things", key)
		}
		at := one.x.Find(key)
		if got := other.x.Find(key); got != at {
			t.Errorf("Find(%d) = %+v and %+v", key, at, got)
		}
		on = by.below(3) == 0
		one.x.Remove(key, at, on)
		other.x.Remove(key, at, on)
	}
	if !slices.Equal(one.m.Trace(), other.m.Trace()) || !slices.Equal(one.s.Sources(), other.s.Sources()) {
		t.Error("the traces are not the same")
	}
}

// P1: whatever is handed in, and whatever the memory says, each call ends, and does not panic.
func TestAnythingIsHandedIn(t *testing.T) {
	t.Parallel()
	by := chance(12)
	keys := []uint64{0, 1, greatestKey, 1 << 60, 1<<60 + 1, 1 << 63, greatest - 1, greatest}
	for _, p := range somePlans()[:12] {
		// A tape that ends, and a store that has too few blocks.
		for _, q := range []plan{p, {p.c, p.spill, 64, p.kicks, p.region, p.first, p.h}} {
			r := made(t, q, by.words(40))
			for _, key := range keys {
				for _, table := range []int{-1, 0, 1, 2, 3, math.MinInt, math.MaxInt} {
					r.x.Insert(key, key, true)
					r.x.Find(key)
					r.x.Remove(key, cuckoo.Spot{Table: table, At: keys[by.below(len(keys))]}, true)
				}
			}
			if r.m.Fault() {
				t.Errorf("%+v: a cell was looked at that there is not", q)
			}
		}
	}
}

func TestCellsThatNoIndexMakes(t *testing.T) {
	by := chance(13)
	words := []uint64{0, 1, 2, 3, 4, 1 << 32, 1 << 60, 1 << 63, greatest - 1, greatest}
	for _, p := range somePlans()[:12] {
		for range 5 {
			r := made(t, p, by.words(40))
			for region := range r.sizes() {
				for at := range r.m.Size(region) {
					var c api.Cell
					for i := range c {
						c[i] = words[by.below(len(words))]
					}
					r.m.Write(region, at, c)
				}
			}
			gone := len(r.s.Leaves())
			for key := range uint64(4) {
				r.x.Insert(key, key, true)
				r.x.Remove(key, r.x.Find(key), true)
			}
			if many := len(r.s.Leaves()) - gone; many != 4*(2*p.kicks+3)*p.c.Levels || r.m.Fault() {
				t.Errorf("%+v: %d ways, fault %v", p, many, r.m.Fault())
			}
		}
	}
}

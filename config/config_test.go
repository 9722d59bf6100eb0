package config_test

import (
	"errors"
	"math"
	"slices"
	"strconv"
	"testing"

	"shellgame/api"
	"shellgame/config"
	"shellgame/level"
	"shellgame/mem"
	"shellgame/store"
	"shellgame/tape"
)

// The chapter's example, whatever stands in the fields that it leaves out.
func TestExample(t *testing.T) {
	c := config.Config{Capacity: 3, Batch: 1, Kicks: 2, Spill: 2, Table: 3}
	for _, rest := range []config.Config{{}, {Slots: 2, Stash: 5, Levels: 2}, {Slots: 9, Stash: 65, Levels: 5}, {Slots: -1, Stash: math.MinInt, Levels: math.MaxInt}} {
		for policy := range 3 {
			c.Slots, c.Stash, c.Levels, c.Policy = rest.Slots, rest.Stash, rest.Levels, policy
			if got := why(c); got != (said{"Table", api.ErrForm}) {
				t.Error(c, got)
			}
			checkFault(t, c, said{"Table", api.ErrForm})
		}
	}
}

// The config of the example of the whole.
func TestExampleOfTheWhole(t *testing.T) {
	c := config.Config{Capacity: 2, Batch: 1, Kicks: 2, Spill: 2, Table: 4, Slots: 2, Stash: 12, Levels: 2, Policy: config.LRU}
	checkFault(t, c, said{})
	if config.Cells(c) != 3 || config.Store(c) != (store.Config{Blocks: 16, Slots: 2, Stash: 12, Levels: 2}) {
		t.Error(config.Cells(c), config.Store(c))
	}
	if got := config.Sizes(c); !slices.Equal(got, []int{1, 2, 4, 4, 62, 12, 32, 14, 12, 32}) {
		t.Error(got)
	}
	// 9 accesses and, at the end of each batch, 3 and 4 more, of 4 words each.
	if got := config.Words(c, 4); got != 4+4*4*(9+7) {
		t.Error(got)
	}
}

func TestPolicies(t *testing.T) {
	if config.LRU != 0 || config.FIFO != 1 || config.LFU != 2 {
		t.Error(config.LRU, config.FIFO, config.LFU)
	}
}

// G1.

// checkFault asks all that a config tells of what is wrong with it.
func checkFault(t *testing.T, c config.Config, want said) {
	t.Helper()
	if got := why(c); got != want {
		t.Errorf("Why(%+v) = %v, not %v", c, got, want)
	}
	err := config.Check(c)
	if (err == nil) != (want.wrong == api.OK) {
		t.Errorf("Check(%+v) = %v", c, err)
	}
	if err != nil {
		checkError(t, err, want)
	}
}

// checkError asks an error for all that has to be in it.
func checkError(t *testing.T, err error, want said) {
	t.Helper()
	for e := api.OK; e <= api.ErrNone+1; e++ {
		if errors.Is(err, e) != (e == want.wrong) {
			t.Errorf("%v: errors.Is of %d: %v", err, e, errors.Is(err, e))
		}
	}
	var wrong api.Errno
	if !errors.As(err, &wrong) || wrong != want.wrong {
		t.Errorf("%v: errors.As of an Errno: %d", err, wrong)
	}
	var fault *config.Fault
	if !errors.As(err, &fault) || fault == nil {
		t.Fatalf("%v is no Fault", err)
	}
	text := want.field + " shellgame: " + strconv.Itoa(int(want.wrong))
	if fault.Error() != text || fault.Error() != want.field+" "+want.wrong.Error() {
		t.Errorf("%q, not %q", fault.Error(), text)
	}
	if !errors.Is(err, fault) {
		t.Errorf("%v is not the Fault that is in it", err)
	}
}

func TestRightConfigs(t *testing.T) {
	for _, c := range rights() {
		checkFault(t, c, said{})
	}
}

// Of each field the numbers at its edges, all others as they are, and wide enough not to matter.
func TestEachFieldAtItsEdges(t *testing.T) {
	wide := config.Config{Capacity: 3, Batch: 2, Kicks: 2, Spill: 4, Table: 128, Slots: 2, Stash: 5, Levels: 2, Policy: config.FIFO}
	for _, x := range []struct {
		name   string
		right  []int
		wrong  []int
		told   string
		reason api.Errno
	}{
		{"Capacity", []int{1, 2, 63, 64}, []int{0, -1, 65, 66, math.MinInt, math.MaxInt}, "Capacity", api.ErrRange},
		{"Batch", []int{1, 2, 15, 16}, []int{0, -1, 17, 18, math.MinInt, math.MaxInt}, "Batch", api.ErrRange},
		{"Kicks", []int{1, 2, 15, 16}, []int{0, -1, 17, 18, math.MinInt, math.MaxInt}, "Kicks", api.ErrRange},
		{"Spill", []int{1, 2, 31, 32}, []int{0, -1, 33, 34, math.MinInt, math.MaxInt}, "Spill", api.ErrRange},
		{"Policy", []int{0, 1, 2}, []int{-1, -2, 3, 4, math.MinInt, math.MaxInt}, "Policy", api.ErrRange},
		{"Table", []int{8, 16, 32, 64, 128}, []int{0, -1, -2, -8, 129, 130, 256, 1 << 32, 1 << 62, math.MinInt, math.MaxInt}, "Table", api.ErrRange},
		{"Table", nil, []int{3, 5, 6, 7, 9, 12, 31, 33, 63, 65, 96, 126, 127}, "Table", api.ErrForm},
		{"Table", nil, []int{1, 2, 4}, "Table", api.ErrLong},
		{"Slots", []int{1, 2, 3, 4}, []int{0, -1, 5, 8, 9, 10, math.MinInt, math.MaxInt}, "Levels", api.ErrArg},
		{"Stash", []int{1, 2, 63, 64}, []int{0, -1, 65, 66, math.MinInt, math.MaxInt}, "Levels", api.ErrArg},
		{"Levels", []int{1, 2, 3, 4}, []int{0, -1, 5, 6, math.MinInt, math.MaxInt}, "Levels", api.ErrArg},
	} {
		p := parts()[slices.IndexFunc(parts(), func(p part) bool { return p.name == x.name })]
		for _, n := range x.right {
			checkFault(t, p.with(wide, n), said{})
		}
		for _, n := range x.wrong {
			checkFault(t, p.with(wide, n), said{x.told, x.reason})
		}
	}
}

func TestEachFieldOfEachConfig(t *testing.T) {
	for _, c := range rights() {
		for _, p := range parts() {
			for _, n := range p.outside() {
				checkFault(t, p.with(c, n), p.told)
			}
			for n := p.least - 100; n <= p.greatest+300; n++ {
				checkFault(t, p.with(c, n), whyOf(p.with(c, n)))
			}
		}
	}
}

// A table of as many places as there are cells is right, one of fewer is not.
func TestTablesAndCells(t *testing.T) {
	c := rights()[2]
	for capacity := 1; capacity <= 64; capacity++ {
		for batch := 1; batch <= 16; batch++ {
			c.Capacity, c.Batch = capacity, batch
			for table := 1; table <= 128; table *= 2 {
				c.Table = table
				want := said{}
				if table < capacity+batch {
					want = said{"Table", api.ErrLong}
				}
				if got := why(c); got != want {
					t.Errorf("%+v: %v, not %v", c, got, want)
				}
				// One place more is no power of two, but of 1, and of 128 too many.
				c.Table++
				if got := why(c); got != whyOf(c) || table > 1 && got.wrong == api.OK {
					t.Errorf("%+v: %v", c, got)
				}
			}
		}
	}
}

func TestTablesJustAsGreatAsTheCells(t *testing.T) {
	for _, x := range []struct {
		capacity, batch, table int
		want                   said
	}{
		{1, 1, 2, said{}}, {1, 1, 1, said{"Table", api.ErrLong}},
		{2, 1, 4, said{}}, {2, 1, 2, said{"Table", api.ErrLong}}, {2, 1, 3, said{"Table", api.ErrForm}},
		{3, 1, 4, said{}}, {1, 3, 4, said{}}, {2, 2, 4, said{}},
		{4, 1, 4, said{"Table", api.ErrLong}}, {1, 4, 4, said{"Table", api.ErrLong}}, {3, 2, 4, said{"Table", api.ErrLong}},
		{5, 1, 8, said{}}, {7, 1, 8, said{}}, {8, 1, 8, said{"Table", api.ErrLong}},
		{48, 16, 64, said{}}, {49, 16, 64, said{"Table", api.ErrLong}}, {64, 1, 64, said{"Table", api.ErrLong}},
		{64, 16, 128, said{}}, {64, 16, 64, said{"Table", api.ErrLong}}, {64, 16, 80, said{"Table", api.ErrForm}}, {64, 16, 256, said{"Table", api.ErrRange}},
	} {
		c := rights()[2]
		c.Capacity, c.Batch, c.Table = x.capacity, x.batch, x.table
		checkFault(t, c, x.want)
	}
}

// Of each table that has room for the cells: which stores are right, and which have a tree of more than 4096 cells.
func TestLevels(t *testing.T) {
	for _, c := range rights() {
		for _, table := range []int{2, 4, 8, 16, 32, 64, 128} {
			if table < c.Capacity+c.Batch {
				continue
			}
			c.Table = table
			for slots := -1; slots <= 10; slots++ {
				for _, stash := range []int{-1, 0, 1, 2, 31, 63, 64, 65} {
					for levels := -1; levels <= 6; levels++ {
						c.Slots, c.Stash, c.Levels = slots, stash, levels
						checkFault(t, c, whyOf(c))
					}
				}
			}
		}
	}
}

func TestTheGreatestTrees(t *testing.T) {
	for _, x := range []struct {
		table, slots int
		want         said
		tree         int
	}{
		{128, 4, said{}, 4092}, {128, 5, said{"Levels", api.ErrArg}, 0}, {128, 8, said{"Levels", api.ErrArg}, 0},
		{64, 8, said{}, 4088}, {64, 9, said{"Levels", api.ErrArg}, 0}, {128, 3, said{}, 3069}, {32, 8, said{}, 2040}, {2, 8, said{}, 120},
	} {
		for levels := 1; levels <= 4; levels++ {
			c := config.Config{Capacity: 1, Batch: 1, Kicks: 1, Spill: 1, Table: x.table, Slots: x.slots, Stash: 1, Levels: levels}
			checkFault(t, c, x.want)
			if x.tree != 0 && config.Sizes(c)[4] != x.tree {
				t.Errorf("%+v: %v", c, config.Sizes(c))
			}
		}
	}
}

// Of two fields that are wrong the first is told, whatever is wrong with the other one.
func TestTwoFieldsThatAreWrong(t *testing.T) {
	for _, c := range rights() {
		for i, first := range parts() {
			for _, second := range parts()[i+1:] {
				for _, a := range first.outside() {
					for _, b := range second.outside() {
						wrong := second.with(first.with(c, a), b)
						if got := why(wrong); got != first.told {
							t.Errorf("Why(%+v) = %v, not %v", wrong, got, first.told)
						}
					}
				}
				checkFault(t, second.with(first.with(c, first.least-1), second.greatest+1), first.told)
				checkFault(t, second.with(first.with(c, first.greatest+1), second.least-1), first.told)
			}
		}
	}
}

// The same, of a table that is within its bounds, and of one that is wrong in two ways.
func TestATableThatIsWrongWithOthers(t *testing.T) {
	table := parts()[5]
	c := config.Config{Capacity: 20, Batch: 4, Kicks: 2, Spill: 4, Table: 32, Slots: 2, Stash: 5, Levels: 2}
	for _, n := range []int{0, 3, 16, 24, 33, 129} {
		wrong := table.with(c, n)
		own := why(wrong)
		if own.field != "Table" {
			t.Fatal(n, own)
		}
		for i, p := range parts() {
			for _, m := range p.outside() {
				switch {
				case i < 5:
					checkFault(t, p.with(wrong, m), p.told)
				case i > 5:
					checkFault(t, p.with(wrong, m), own)
				}
			}
		}
	}
	checkFault(t, table.with(c, 3), said{"Table", api.ErrForm})
	checkFault(t, table.with(c, 16), said{"Table", api.ErrLong})
	checkFault(t, table.with(c, 24), said{"Table", api.ErrForm})
	checkFault(t, table.with(c, 33), said{"Table", api.ErrForm})
}

// With all fields wrong, a field that is put right is told no more: the next one is.
func TestFieldsThatArePutRightOneByOne(t *testing.T) {
	for _, right := range rights() {
		for turn := range 13 {
			c := right
			for _, p := range parts() {
				l := p.outside()
				*p.of(&c) = l[turn%len(l)]
			}
			for _, p := range parts() {
				checkFault(t, c, p.told)
				*p.of(&c) = *p.of(&right)
			}
			checkFault(t, c, said{})
		}
	}
}

func TestNoughts(t *testing.T) {
	checkFault(t, config.Config{}, said{"Capacity", api.ErrRange})
}

func TestAnyConfig(t *testing.T) {
	by := chance(13)
	many := map[said]int{}
	for range 100000 {
		c := anyConfig(&by)
		want := whyOf(c)
		many[want]++
		checkFault(t, c, want)
		checkNumbers(t, c)
	}
	for _, want := range []said{{}, {"Capacity", api.ErrRange}, {"Batch", api.ErrRange}, {"Kicks", api.ErrRange}, {"Spill", api.ErrRange}, {"Policy", api.ErrRange}, {"Table", api.ErrRange}, {"Table", api.ErrForm}, {"Table", api.ErrLong}, {"Levels", api.ErrArg}} {
		if many[want] < 500 {
			t.Errorf("%v was told of %d configs alone", want, many[want])
		}
	}
}

// wrapped is an error that has another one in it.
type wrapped struct{ inner error }

func (w wrapped) Error() string { return "no cache" }

func (w wrapped) Unwrap() error { return w.inner }

// What is in a Fault is found, however deep it lies; and faults do not become one another.
func TestFaultsThatAreWrappedAndKept(t *testing.T) {
	good := rights()[2]
	var kept []error
	var wants []said
	for _, p := range parts() {
		kept = append(kept, config.Check(p.with(good, p.greatest+1)))
		wants = append(wants, p.told)
	}
	table := parts()[5]
	kept = append(kept, config.Check(table.with(good, 12)), config.Check(table.with(good, 4)))
	wants = append(wants, said{"Table", api.ErrForm}, said{"Table", api.ErrLong})
	for i, want := range wants {
		checkError(t, kept[i], want)
		checkError(t, wrapped{wrapped{kept[i]}}, want)
		checkError(t, errors.Join(errors.New("another"), kept[i]), want)
		for j := range kept {
			if i != j && errors.Is(kept[i], kept[j]) {
				t.Errorf("%v is %v", kept[i], kept[j])
			}
		}
	}
}

// No config told another one what is wrong with it: P4.
func TestAnswersHangOnTheConfigAlone(t *testing.T) {
	l := rights()
	for _, p := range parts() {
		for _, c := range rights() {
			l = append(l, p.with(c, p.greatest+1))
		}
	}
	for _, a := range l {
		for _, b := range l {
			config.Check(a)
			config.Words(a, 7)
			if got := why(b); got != whyOf(b) {
				t.Fatalf("Why(%+v) behind %+v: %v", b, a, got)
			}
		}
	}
}

// G2.

// checkNumbers asks all that follows from a config: nothing, if it is wrong.
func checkNumbers(t *testing.T, c config.Config) {
	t.Helper()
	var want struct {
		cells, operation, sweep int
		store                   store.Config
		sizes                   []int
	}
	right := whyOf(c).wrong == api.OK
	if right {
		want.cells = c.Capacity + c.Batch
		want.operation, want.sweep = 5+c.Kicks+c.Kicks, c.Capacity+5*c.Batch
		want.store, want.sizes = storeOf(c), sizesOf(c)
	}
	if got := config.Cells(c); got != want.cells {
		t.Errorf("Cells(%+v) = %d, not %d", c, got, want.cells)
	}
	if got := config.Store(c); got != want.store {
		t.Errorf("Store(%+v) = %+v, not %+v", c, got, want.store)
	}
	if got := config.Sizes(c); !slices.Equal(got, want.sizes) {
		t.Errorf("Sizes(%+v) = %v, not %v", c, got, want.sizes)
	}
	if operation, sweep := config.Accesses(c); operation != want.operation || sweep != want.sweep {
		t.Errorf("Accesses(%+v) = %d, %d, not %d, %d", c, operation, sweep, want.operation, want.sweep)
	}
	for _, n := range []int{-1, 0, 1, c.Batch, 33} {
		words := 0
		if right {
			words = wordsOf(c, n)
		}
		if got := config.Words(c, n); got != words {
			t.Errorf("Words(%+v, %d) = %d, not %d", c, n, got, words)
		}
	}
}

func TestNumbersOfRightConfigs(t *testing.T) {
	for _, c := range rights() {
		checkNumbers(t, c)
	}
}

// All cells and tables that there may be, with each store's numbers of levels.
func TestNumbersOfEachCellsAndTable(t *testing.T) {
	for capacity := 1; capacity <= 64; capacity++ {
		for batch := 1; batch <= 16; batch++ {
			for table := 1; table <= 128; table *= 2 {
				levels := 1 + (capacity+batch)%4
				checkNumbers(t, config.Config{Capacity: capacity, Batch: batch, Kicks: batch, Spill: 1 + capacity/2 - capacity/64, Table: table, Slots: 1 + capacity%4, Stash: capacity, Levels: levels, Policy: capacity % 3})
			}
		}
	}
}

func TestNumbersOfEachSlotsStashAndLevels(t *testing.T) {
	for slots := 1; slots <= 8; slots++ {
		for stash := 1; stash <= 64; stash++ {
			for levels := 1; levels <= 4; levels++ {
				for _, table := range []int{4, 8, 64, 128} {
					checkNumbers(t, config.Config{Capacity: 2, Batch: 2, Kicks: 1, Spill: 1, Table: table, Slots: slots, Stash: stash, Levels: levels})
				}
			}
		}
	}
}

// Written out.
func TestSizes(t *testing.T) {
	for i, want := range [][]int{
		{1, 1, 2, 8, 15, 1, 8},
		{1, 32, 128, 8, 4092, 64, 128, 1020, 64, 128, 252, 64, 128, 60, 64, 128},
		{1, 4, 8, 8, 126, 5, 32, 30, 5, 16},
		{1, 2, 4, 4, 62, 12, 32, 14, 12, 32},
		{1, 1, 8, 1, 504, 1, 64, 120, 1, 64, 24, 1, 32, 8, 1, 16},
		{1, 7, 4, 32, 1023, 33, 64, 255, 33, 64, 63, 33, 64},
		{1, 32, 64, 256, 4088, 64, 256},
	} {
		if got := config.Sizes(rights()[i]); !slices.Equal(got, want) {
			t.Errorf("Sizes(%+v) = %v, not %v", rights()[i], got, want)
		}
	}
}

// The sweep's region has the next power of two of the cells.
func TestSizesOfTheSweep(t *testing.T) {
	for _, x := range []struct{ capacity, batch, want int }{
		{1, 1, 2}, {2, 1, 4}, {1, 2, 4}, {3, 1, 4}, {4, 1, 8}, {7, 1, 8}, {8, 1, 16}, {15, 1, 16}, {16, 1, 32},
		{16, 16, 32}, {17, 16, 64}, {48, 16, 64}, {49, 16, 128}, {64, 1, 128}, {63, 1, 64}, {64, 16, 128},
	} {
		c := config.Config{Capacity: x.capacity, Batch: x.batch, Kicks: 1, Spill: 1, Table: 128, Slots: 1, Stash: 1, Levels: 1}
		if got := config.Sizes(c); len(got) != 7 || got[2] != x.want {
			t.Errorf("%+v: %v", c, got)
		}
	}
}

// P3: the list is new each time.
func TestSizesAreNew(t *testing.T) {
	for _, c := range rights() {
		first := config.Sizes(c)
		clear(first[:cap(first)])
		if got := config.Sizes(c); !slices.Equal(got, sizesOf(c)) {
			t.Errorf("Sizes(%+v) = %v", c, got)
		}
	}
}

// The least and the greatest numbers of accesses.
func TestAccesses(t *testing.T) {
	for _, x := range []struct{ capacity, batch, kicks, operation, sweep int }{
		{1, 1, 1, 7, 6}, {1, 1, 16, 37, 6}, {64, 16, 1, 7, 144}, {64, 16, 16, 37, 144}, {64, 1, 2, 9, 69}, {1, 16, 2, 9, 81}, {3, 2, 2, 9, 13}, {2, 1, 1, 7, 7},
	} {
		c := config.Config{Capacity: x.capacity, Batch: x.batch, Kicks: x.kicks, Spill: 1, Table: 128, Slots: 1, Stash: 1, Levels: 1}
		if operation, sweep := config.Accesses(c); operation != x.operation || sweep != x.sweep {
			t.Errorf("Accesses(%+v) = %d, %d, not %d, %d", c, operation, sweep, x.operation, x.sweep)
		}
	}
}

// Written out: of 2 words an access, and then of 8.
func TestWords(t *testing.T) {
	for _, x := range []struct {
		c    config.Config
		n    int
		want int
	}{
		{rights()[0], 0, 4}, {rights()[0], 1, 4 + 2*13}, {rights()[0], 2, 4 + 4*13}, {rights()[0], -1, 4}, {rights()[0], math.MinInt, 4},
		{rights()[0], 1 << 20, 27262980}, {rights()[0], 1<<20 - 1, 27262954}, {rights()[0], 1<<20 + 1, 27262980}, {rights()[0], math.MaxInt, 27262980},
		{rights()[1], 0, 4}, {rights()[1], 1, 300}, {rights()[1], 15, 4444}, {rights()[1], 16, 5892}, {rights()[1], 17, 6188}, {rights()[1], 31, 10332}, {rights()[1], 32, 11780},
		{rights()[1], 1 << 20, 385875972}, {rights()[1], 1<<20 - 1, 385874524}, {rights()[1], 1<<20 + 1, 385875972}, {rights()[1], math.MaxInt, 385875972},
		{rights()[2], 1, 40}, {rights()[2], 2, 128}, {rights()[2], 3, 164}, {rights()[2], 4, 252},
	} {
		if got := config.Words(x.c, x.n); got != x.want {
			t.Errorf("Words(%+v, %d) = %d, not %d", x.c, x.n, got, x.want)
		}
	}
}

// Around each multiple of Batch: of the operations that end one, and of those that do not.
func TestWordsOfBatches(t *testing.T) {
	for _, c := range rights() {
		for batch := 1; batch <= 16; batch++ {
			c.Batch, c.Capacity = batch, min(c.Capacity, max(1, c.Table-batch))
			if whyOf(c).wrong != api.OK {
				continue
			}
			for n := -3; n <= 5*batch+1; n++ {
				if got := config.Words(c, n); got != wordsOf(c, n) {
					t.Errorf("Words(%+v, %d) = %d, not %d", c, n, got, wordsOf(c, n))
				}
			}
		}
	}
}

func TestWordsOfTheMostOperations(t *testing.T) {
	for _, c := range rights() {
		for _, batch := range []int{1, 3, 16} {
			c.Batch = batch
			if whyOf(c).wrong != api.OK {
				continue
			}
			most := wordsOf(c, 1<<20)
			for _, n := range []int{1 << 20, 1<<20 + 1, 1<<20 + batch, 1 << 21, 1 << 30, 1 << 32, 1<<32 + 1, 1 << 40, 1 << 60, 1 << 62, math.MaxInt - 1, math.MaxInt} {
				if got := config.Words(c, n); got != most {
					t.Errorf("Words(%+v, %d) = %d, not %d", c, n, got, most)
				}
			}
			if got, want := config.Words(c, 1<<20-1), wordsOf(c, 1<<20-1); got != want {
				t.Errorf("Words(%+v, one less) = %d, not %d", c, got, want)
			}
			for _, n := range []int{-1, -2, -batch, -1 << 20, -1<<20 - 1, -1 << 32, math.MinInt, math.MinInt + 1} {
				if got := config.Words(c, n); got != 4 {
					t.Errorf("Words(%+v, %d) = %d, not 4", c, n, got)
				}
			}
		}
	}
}

// Of a config that is wrong, in whichever field and way, nothing follows.
func TestNumbersOfWrongConfigs(t *testing.T) {
	for _, c := range rights() {
		for _, p := range parts() {
			for _, n := range p.outside() {
				checkNothing(t, p.with(c, n))
			}
		}
		for _, table := range []int{3, 12, 127} {
			c.Table = table
			checkNothing(t, c)
		}
	}
	for _, c := range []config.Config{
		{},
		{Capacity: 1, Batch: 1, Kicks: 1, Spill: 1, Table: 1, Slots: 1, Stash: 1, Levels: 1},
		{Capacity: 4, Batch: 1, Kicks: 1, Spill: 1, Table: 4, Slots: 1, Stash: 1, Levels: 1},
		{Capacity: 1, Batch: 1, Kicks: 1, Spill: 1, Table: 128, Slots: 5, Stash: 1, Levels: 1},
	} {
		checkNothing(t, c)
	}
}

func checkNothing(t *testing.T, c config.Config) {
	t.Helper()
	operation, sweep := config.Accesses(c)
	if config.Cells(c) != 0 || config.Store(c) != (store.Config{}) || len(config.Sizes(c)) != 0 || operation != 0 || sweep != 0 {
		t.Errorf("%+v is wrong: %d, %+v, %v, %d, %d", c, config.Cells(c), config.Store(c), config.Sizes(c), operation, sweep)
	}
	for _, n := range []int{math.MinInt, -1, 0, 1, 2, 16, 1 << 20, 1<<20 + 1, math.MaxInt} {
		if got := config.Words(c, n); got != 0 {
			t.Errorf("%+v is wrong: Words of %d are %d", c, n, got)
		}
	}
}

// What is right fits: a memory has room for the regions, a store stands on them from region 3 on, and the words are those that its accesses take.
func TestAStoreStandsOnEachRightConfig(t *testing.T) {
	for _, c := range rights() {
		for slots := 1; slots <= 8; slots++ {
			for levels := 1; levels <= 4; levels++ {
				c.Slots, c.Levels = slots, levels
				m, e := mem.New(config.Sizes(c))
				if (e == api.OK) != (whyOf(c).wrong == api.OK) {
					t.Errorf("%+v: a memory of %v: %v", c, config.Sizes(c), e)
				}
				if e != api.OK {
					continue
				}
				if _, e := store.New(m, 3, config.Store(c), tape.New(nil)); e != api.OK {
					t.Errorf("%+v: a store: %v", c, e)
				}
			}
		}
	}
}

func TestTheWordsAreThoseThatAStoreTakes(t *testing.T) {
	for _, c := range rights()[2:5] {
		for _, n := range []int{0, 1, 2, c.Batch, 2*c.Batch + 1} {
			p := tape.New(make([]uint64, config.Words(c, n)))
			m, _ := mem.New(config.Sizes(c))
			s, e := store.New(m, 3, config.Store(c), p)
			if e != api.OK {
				t.Fatal(c, e)
			}
			p.Take(4)
			operation, sweep := config.Accesses(c)
			for range n*operation + n/c.Batch*sweep {
				s.Access(level.Look, 0, api.Data{})
			}
			if p.Used() != config.Words(c, n) || p.Short() {
				t.Errorf("%+v, of %d operations: %d words, not %d", c, n, p.Used(), config.Words(c, n))
			}
		}
	}
}

// There are as many blocks as they need, and no greater power of two.
func TestEachCellAndEachPlaceHasABlock(t *testing.T) {
	for _, c := range rights() {
		if most := config.Store(c).Blocks; most < 2*c.Table+config.Cells(c) || most/2 >= 2*c.Table+config.Cells(c) {
			t.Errorf("%+v: %d blocks", c, most)
		}
	}
}

// G3.

// later tells whether a fault in one field is told behind those of another one.
func later(field, told string) bool {
	order := []string{"Capacity", "Batch", "Kicks", "Spill", "Policy", "Table", "Levels"}
	return slices.Index(order, told) > slices.Index(order, field)
}

// canBePutRight tells whether there is a number for the field that is told, so that it is told no more, nor one ahead of it.
func canBePutRight(c config.Config) bool {
	wrong := why(c)
	p := parts()[slices.IndexFunc(parts(), func(p part) bool { return p.name == wrong.field })]
	for n := p.least; n <= p.greatest; n++ {
		if got := why(p.with(c, n)); got.wrong == api.OK || later(wrong.field, got.field) {
			return true
		}
	}
	return false
}

// Levels answers for Slots and Stash, too: what these spoil no number of levels puts right. See TestSlotsAndStashArePutRightThemselves.
func spoiltByAnother(c config.Config) bool {
	return why(c).field == "Levels" && (outOf(c.Slots, 1, 8) || outOf(c.Stash, 1, 64) || c.Table == 128 && c.Slots > 4)
}

func TestAFieldThatIsToldCanBePutRight(t *testing.T) {
	by := chance(7)
	asked := map[string]int{}
	for range 20000 {
		c := anyConfig(&by)
		field := why(c).field
		if field == "" || spoiltByAnother(c) {
			continue
		}
		asked[field]++
		if !canBePutRight(c) {
			t.Errorf("%+v: no number puts %s right", c, field)
		}
	}
	for _, field := range []string{"Capacity", "Batch", "Kicks", "Spill", "Policy", "Table", "Levels"} {
		if asked[field] < 100 {
			t.Errorf("%s was told of %d configs alone", field, asked[field])
		}
	}
}

func TestEachFieldCanBePutRight(t *testing.T) {
	for _, c := range rights() {
		for _, p := range parts() {
			if p.told.field != p.name {
				continue
			}
			for _, n := range p.outside() {
				if wrong := p.with(c, n); !canBePutRight(wrong) {
					t.Errorf("%+v: no number puts %s right", wrong, p.name)
				}
			}
		}
	}
}

func TestSlotsAndStashArePutRightThemselves(t *testing.T) {
	for _, c := range rights() {
		for _, p := range parts()[6:8] {
			for _, n := range p.outside() {
				wrong := p.with(c, n)
				for levels := -1; levels <= 6; levels++ {
					wrong.Levels = levels
					checkFault(t, wrong, said{"Levels", api.ErrArg})
				}
				wrong.Levels = c.Levels
				checkFault(t, p.with(wrong, 1), said{})
			}
		}
	}
}

// What a right config is told of its store is right.
func TestTheStoreOfARightConfigIsRight(t *testing.T) {
	by := chance(3)
	for range 20000 {
		c := anyConfig(&by)
		if right := config.Check(c) == nil; right != store.Right(config.Store(c)) {
			t.Errorf("%+v: %+v", c, config.Store(c))
		}
	}
}

package level_test

import (
	"math"
	"slices"
	"testing"

	"shellgame/api"
	"shellgame/level"
	"shellgame/mem"
	"shellgame/net"
)

const (
	greatest = math.MaxUint64
	lastId   = 1 << 31
)

// ask is what an Access is handed.
type ask struct {
	op       int
	id       uint64
	at       int
	d        api.Data
	from, to int
}

// data makes data whose words differ from each other, from those of every other n, and from 0.
func data(n int) api.Data {
	var d api.Data
	for i := range d {
		d[i] = uint64(n*api.Payload+i+1) * 0x9e3779b97f4a7c15
	}
	return d
}

// blockCell is a cell with a block, as it stands in the tree and the stash.
func blockCell(id uint64, leaf int, d api.Data) api.Cell {
	return api.Cell{1, id, uint64(leaf), d[0], d[1], d[2], d[3], d[4], d[5], d[6], d[7], 0}
}

// chance makes numbers below a bound, without a pattern, the same ones in each run.
type chance uint64

func (c *chance) below(n int) int {
	*c = *c*6364136223846793005 + 1442695040888963407
	return int(uint64(*c)>>33) % n
}

func (c *chance) data() api.Data {
	var d api.Data
	for i := range d {
		d[i] = []uint64{0, 1, greatest, uint64(c.below(1<<31)) * 0x9e3779b97f4a7c15}[c.below(4)]
	}
	return d
}

// wayUp are the nodes from the root to a leaf, climbed from the leaf.
func wayUp(leaves, leaf int) []int {
	l := []int{}
	for node := leaves - 1 + leaf; ; node = (node - 1) / 2 {
		l = append(l, node)
		if node == 0 {
			break
		}
	}
	slices.Reverse(l)
	return l
}

// common is how far down two ways are one.
func common(leaves, a, b int) int {
	left, right := wayUp(leaves, a), wayUp(leaves, b)
	deep := 0
	for deep+1 < len(left) && left[deep+1] == right[deep+1] {
		deep++
	}
	return deep
}

// placesOf counts the places of a way, of the stash, and the one that is not kept.
func placesOf(c level.Config) int { return len(wayUp(c.Leaves, 0))*c.Slots + c.Stash + 1 }

// tableOf doubles up to as many cells as the table has.
func tableOf(c level.Config) int {
	n := 1
	for n < placesOf(c) {
		n += n
	}
	return n
}

// twin does what the chapter says with plain lists: no memory, no mask, no dealer of layer 9.
type twin struct {
	c                  level.Config
	tree, stash, table []api.Cell
	over               bool
	meant              []uint64
	lost               []uint64
	// How often two blocks of one id were told apart, and two of one id and one Deep stood in the table.
	doubles, ties int
}

func newTwin(c level.Config) *twin {
	return &twin{c: c, tree: make([]api.Cell, c.Slots*(2*c.Leaves-1)), stash: make([]api.Cell, c.Stash), table: make([]api.Cell, tableOf(c))}
}

func (w *twin) kept(from int) []*api.Cell {
	l := []*api.Cell{}
	for _, node := range wayUp(w.c.Leaves, from) {
		for slot := 0; slot < w.c.Slots; slot++ {
			l = append(l, &w.tree[node*w.c.Slots+slot])
		}
	}
	for at := range w.stash {
		l = append(l, &w.stash[at])
	}
	return l
}

func (w *twin) access(a ask) (api.Data, bool) {
	if (a.op == level.Put || a.op == level.Part) && !slices.Contains(w.meant, a.id) {
		w.meant = append(w.meant, a.id)
	}
	clear(w.table)
	kept := w.kept(a.from)
	var was api.Data
	there := false
	for i, cell := range kept {
		if cell[0] == 1 && cell[1] == a.id {
			if there {
				w.doubles++
			}
			there, was = true, api.Data(cell[3:11])
			continue
		}
		w.table[i] = *cell
	}
	w.table[len(kept)] = w.after(a, was, there)
	w.deal(a.from)
	for i, cell := range kept {
		*cell = w.table[i]
		cell[11] = 0
	}
	return was, there
}

func (w *twin) after(a ask, was api.Data, there bool) api.Cell {
	switch {
	case a.op == level.Look && there:
		return blockCell(a.id, a.to, was)
	case a.op == level.Put:
		return blockCell(a.id, a.to, a.d)
	case a.op == level.Part:
		was[a.at], was[a.at+1] = a.d[0], a.d[1]
		return blockCell(a.id, a.to, was)
	}
	return api.Cell{}
}

func (w *twin) deal(from int) {
	depth := len(wayUp(w.c.Leaves, 0)) - 1
	for i := range w.table {
		w.table[i][11] = 1<<62 + uint64(i)
		if w.table[i][0] == 1 {
			w.table[i][11] = uint64(depth-common(w.c.Leaves, int(w.table[i][2]), from))*(1<<32) + w.table[i][1]
		}
	}
	w.sort()
	places, lost := w.places(from)
	for i := range w.table {
		if i > 0 && w.table[i][0] == 1 && w.table[i][11] == w.table[i-1][11] {
			w.ties++
		}
	}
	for i := range w.table {
		if i == lost {
			w.lost = append(w.lost, w.table[i][1])
			w.table[i] = api.Cell{}
			w.over = true
		}
		w.table[i][11] = uint64(places[i])
	}
	w.sort()
}

// sort sends the table through the network of layer 5, with compares.
func (w *twin) sort() {
	for _, p := range net.Pairs(len(w.table)) {
		if a, b := w.table[p.I][11], w.table[p.J][11]; p.Up && b < a || !p.Up && a < b {
			w.table[p.I], w.table[p.J] = w.table[p.J], w.table[p.I]
		}
	}
}

// places deals level by level, from the deepest one up: each takes of the blocks, that stand in order, the first ones that may lie there. No more than one can be lost at a time: it is told, or -1.
func (w *twin) places(from int) ([]int, int) {
	hand := []int{}
	for i, cell := range w.table {
		if cell[0] == 1 {
			hand = append(hand, i)
		}
	}
	holder := make([]int, placesOf(w.c))
	for place := range holder {
		holder[place] = -1
	}
	levels := len(wayUp(w.c.Leaves, 0))
	for depth := levels - 1; depth >= 0; depth-- {
		for slot := 0; slot < w.c.Slots && len(hand) > 0; slot++ {
			if common(w.c.Leaves, int(w.table[hand[0]][2]), from) >= depth {
				holder[depth*w.c.Slots+slot] = hand[0]
				hand = hand[1:]
			}
		}
	}
	for i := 0; i < w.c.Stash && len(hand) > 0; i++ {
		holder[levels*w.c.Slots+i] = hand[0]
		hand = hand[1:]
	}
	lost := -1
	if len(hand) > 0 {
		lost = hand[0]
	}
	return w.filled(holder), lost
}

// filled tells each cell's place: those that hold none yet go to the cells that have none, in order.
func (w *twin) filled(holder []int) []int {
	places := make([]int, len(w.table))
	for i := range places {
		places[i] = slices.Index(holder, i)
	}
	for place, i := range holder {
		if i < 0 {
			places[slices.Index(places, -1)] = place
		}
	}
	for i := len(holder); i < len(places); i++ {
		places[i] = i
	}
	return places
}

// looksOf says L4 word for word: how an access from a leaf looks at the regions from first on.
func looksOf(first int, c level.Config, leaf int) []api.Event {
	l := []api.Event{}
	look := func(region, at int, write bool) { l = append(l, api.Event{Region: region, At: at, Write: write}) }
	n, i := tableOf(c), 0
	kept := []api.Event{}
	for _, node := range wayUp(c.Leaves, leaf) {
		for slot := 0; slot < c.Slots; slot++ {
			kept = append(kept, api.Event{Region: first, At: node*c.Slots + slot})
		}
	}
	for at := 0; at < c.Stash; at++ {
		kept = append(kept, api.Event{Region: first + 1, At: at})
	}
	for ; i < len(kept); i++ {
		look(kept[i].Region, kept[i].At, false)
		look(first+2, i, true)
	}
	for ; i < n; i++ {
		look(first+2, i, true)
	}
	for pass := 0; pass < 2; pass++ {
		for at := 0; at < n; at++ {
			look(first+2, at, false)
			look(first+2, at, true)
		}
		for _, p := range net.Pairs(n) {
			look(first+2, p.I, false)
			look(first+2, p.J, false)
			look(first+2, p.I, true)
			look(first+2, p.J, true)
		}
	}
	for at, e := range kept {
		look(first+2, at, false)
		look(e.Region, e.At, true)
	}
	return l
}

// pair is a level, and a twin that is asked the same.
type pair struct {
	m     *mem.Memory
	first int
	l     *level.Level
	w     *twin
}

func memory(t *testing.T, sizes ...int) *mem.Memory {
	t.Helper()
	m, e := mem.New(sizes)
	if e != api.OK {
		t.Fatalf("mem.New(%v): %v", sizes, e)
	}
	return m
}

func on(t *testing.T, m *mem.Memory, first int, c level.Config) pair {
	t.Helper()
	l, e := level.New(m, first, c)
	if l == nil || e != api.OK {
		t.Fatalf("New(m, %d, %v): %v", first, c, e)
	}
	return pair{m, first, l, newTwin(c)}
}

// made is a level in a memory that has just the cells that it needs.
func made(t *testing.T, c level.Config) pair {
	t.Helper()
	return on(t, memory(t, c.Slots*(2*c.Leaves-1), c.Stash, tableOf(c)), 0, c)
}

func cellsOf(m *mem.Memory, region int) []api.Cell {
	l := make([]api.Cell, m.Size(region))
	for at := range l {
		l[at] = m.Read(region, at)
	}
	return l
}

func call(l *level.Level, a ask) (api.Data, bool) {
	return l.Access(a.op, a.id, a.at, a.d, a.from, a.to)
}

// check asks both, and holds what is told, all cells, and all events against each other.
func (p pair) check(t *testing.T, a ask) {
	t.Helper()
	from := p.m.Many()
	got, there := call(p.l, a)
	looks := p.m.Since(from)
	if want, is := p.w.access(a); got != want || there != is {
		t.Errorf("%v: %+v tells %x, %v, not %x, %v", p.w.c, a, got, there, want, is)
	}
	if !slices.Equal(looks, looksOf(p.first, p.w.c, a.from)) {
		t.Errorf("%v: %+v looks otherwise", p.w.c, a)
	}
	if !slices.Equal(looks, level.Events(p.first, p.w.c, a.from)) {
		t.Errorf("%v: %+v looks otherwise than its Events", p.w.c, a)
	}
	p.checkState(t, a)
}

func (p pair) checkState(t *testing.T, a ask) {
	t.Helper()
	for i, want := range [][]api.Cell{p.w.tree, p.w.stash, p.w.table} {
		got := cellsOf(p.m, p.first+i)
		// Cells that a region has beyond those that it needs stay noughts.
		want = append(slices.Clone(want), make([]api.Cell, len(got)-len(want))...)
		if !slices.Equal(got, want) {
			t.Errorf("%v: %+v: region %d is\n%x, not\n%x", p.w.c, a, i, got, want)
		}
	}
	if p.l.Over() != p.w.over || p.l.Blocks() != len(p.w.meant) || p.m.Fault() {
		t.Errorf("%v: %+v: over %v, %d blocks, fault %v", p.w.c, a, p.l.Over(), p.l.Blocks(), p.m.Fault())
	}
}

// checkTold asks, and holds what is told against what is meant.
func checkTold(t *testing.T, l *level.Level, a ask, want api.Data, is bool) {
	t.Helper()
	if got, there := call(l, a); got != want || there != is {
		t.Errorf("%+v tells %x, %v, not %x, %v", a, got, there, want, is)
	}
}

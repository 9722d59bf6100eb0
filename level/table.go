package level

import (
	"shellgame/api"
	"shellgame/deal"
	"shellgame/path"
	"shellgame/sort"
	"shellgame/word"
)

// fetch writes the cells of a way and the stash into the table, noughts for those of the block: each one is told, and by a mask whether it is of the block.
func (l *Level) fetch(spots []spot, id uint64, tell func(mine uint64, c api.Cell)) {
	for i, s := range spots {
		c := l.memory.Read(s.region, s.at)
		// Word 0 counts, too: cells without a block look like some of id 0.
		mine := word.Equal(c[hasWord], 1) & word.Equal(c[idWord], id)
		tell(mine, c)
		l.memory.Write(l.plan.table(), i, word.PickCell(mine, api.Cell{}, c))
	}
}

// add writes the block behind so many cells of the table, and noughts behind it.
func (l *Level) add(behind int, block api.Cell) {
	l.memory.Write(l.plan.table(), behind, block)
	for i := behind + 1; i < l.plan.round(); i++ {
		l.memory.Write(l.plan.table(), i, api.Cell{})
	}
}

// arrange brings each cell of the table to the place that it is dealt.
func (l *Level) arrange(from int) {
	items := l.number(from)
	l.sortTable()
	l.place(items)
	l.sortTable()
}

func (l *Level) sortTable() { sort.Run(l.memory, l.plan.table(), l.plan.round(), keyWord) }

// noBlock is greater than each key of a block.
const noBlock = 1 << 62

// number gives the cells the keys by which they will stand in the order in which they are dealt, and tells their items in that order.
func (l *Level) number(from int) []deal.Item {
	var items []deal.Item
	l.eachOfTable(func(i int, c api.Cell) api.Cell {
		item := l.plan.item(c, from)
		items = append(items, item)
		c[keyWord] = noBlock + uint64(i)
		if has(c) {
			above := path.Depth(l.plan.Leaves) - item.Deep
			c[keyWord] = uint64(above)<<32 + item.Id
		}
		return c
	})
	var ordered []deal.Item
	for _, at := range deal.Order(items) {
		ordered = append(ordered, items[at])
	}
	return ordered
}

// place gives the cells, that now stand as the items do, the keys by which they will stand in their places.
func (l *Level) place(items []deal.Item) {
	shape := l.plan.shape()
	// The cells beyond have no block, and were numbered last: they stand there still.
	places, lost := deal.Deal(shape, items[:deal.Places(shape)])
	gone := make([]uint64, len(items))
	for _, i := range lost {
		gone[i] = ^uint64(0)
		l.over = true
	}
	l.eachOfTable(func(i int, c api.Cell) api.Cell {
		c = word.PickCell(gone[i], api.Cell{}, c)
		c[keyWord] = uint64(i)
		if i < len(places) {
			c[keyWord] = uint64(places[i])
		}
		return c
	})
}

// eachOfTable reads the table's cells and writes what becomes of each.
func (l *Level) eachOfTable(becomes func(i int, c api.Cell) api.Cell) {
	for i, s := range l.plan.tableSpots() {
		c := l.memory.Read(s.region, s.at)
		l.memory.Write(s.region, s.at, becomes(i, c))
	}
}

// giveBack writes the table's first cells to the way and the stash.
func (l *Level) giveBack(spots []spot) {
	for i, s := range spots {
		c := l.memory.Read(l.plan.table(), i)
		c[keyWord] = 0
		l.memory.Write(s.region, s.at, c)
	}
}

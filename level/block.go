package level

import "shellgame/api"

// The words of a cell: is there a block, its id, its leaf, the first one of its data, and what the table is sorted by.
const (
	hasWord  = 0
	idWord   = 1
	leafWord = 2
	dataWord = 3
	keyWord  = 11
)

// has tells whether there is a block in a cell, dataOf what it says.
func has(c api.Cell) bool { return c[hasWord] == 1 }

func dataOf(c api.Cell) api.Data {
	var d api.Data
	copy(d[:], c[dataWord:])
	return d
}

// maxId and maxAt are the greatest id, and the greatest word that a Part may begin at: it is two words long.
const (
	maxId = 1 << 31
	maxAt = api.Payload - 2
)

// ask is what an access is asked to do.
type ask struct {
	op       int
	id       uint64
	at       int
	d        api.Data
	from, to int
}

func (a ask) right(c Config) bool {
	return a.op >= Look && a.op <= Drop &&
		c.hasLeaf(a.from) && c.hasLeaf(a.to) &&
		a.id <= maxId &&
		// Where at means nothing, each one is right.
		(a.op != Part || a.at >= 0 && a.at <= maxAt)
}

// puts tells whether there is a block behind it, whatever was ahead.
func (a ask) puts() bool { return a.op == Put || a.op == Part }

// block is the cell that becomes of the one that was (noughts, if there was none).
func (a ask) block(was api.Cell) api.Cell {
	if a.op == Drop || a.op == Look && !has(was) {
		return api.Cell{}
	}
	block := was
	block[hasWord], block[idWord], block[leafWord] = 1, a.id, uint64(a.to)
	switch a.op {
	case Put:
		copy(block[dataWord:], a.d[:])
	case Part:
		copy(block[dataWord+a.at:], a.d[:2])
	}
	return block
}

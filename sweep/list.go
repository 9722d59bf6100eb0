package sweep

import (
	"shellgame/api"
	"shellgame/config"
	"shellgame/level"
	"shellgame/policy"
	"shellgame/slot"
)

// The words of a line of the list: what lines are put in order by, which cell it is of, and that one's key.
const (
	orderWord = 0
	cellWord  = 1
	keyWord   = 2
)

// list writes a line of each cell, and tells how many are used, and how many of these are expired.
func (b *Box) list(now uint64) (int, int) {
	used, expired := 0, 0
	cells := config.Cells(b.C)
	for cell := range cells {
		s := b.slot(cell)
		over := slot.Expired(s, now)
		b.M.Write(sweepRegion, cell, line(cell, s, over))
		used += count(s.Used)
		expired += count(over)
	}
	b.fill(cells)
	return used, expired
}

// slot is what a cell's block says. One that is no slot's says nothing: it is not used.
func (b *Box) slot(cell int) slot.Slot {
	d, _ := b.S.Access(level.Look, b.Block(cell), api.Data{})
	s, _ := slot.Read(d)
	return s
}

// fill writes the lines that are of no cell, from the first one on: they were put in order with all others the last time.
func (b *Box) fill(first int) {
	for i := range b.M.Size(sweepRegion) - first {
		at := first + i
		b.M.Write(sweepRegion, at, api.Cell{orderWord: policy.Blank(at)})
	}
}

func line(cell int, s slot.Slot, expired bool) api.Cell {
	if !s.Used {
		return api.Cell{orderWord: policy.Blank(cell), cellWord: uint64(cell)}
	}
	item := policy.Item{Cell: cell, Rank: s.Rank, Expired: expired}
	return api.Cell{orderWord: policy.Key(item), cellWord: uint64(cell), keyWord: s.Key}
}

func count(yes bool) int {
	if yes {
		return 1
	}
	return 0
}

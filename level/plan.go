package level

import (
	"shellgame/api"
	"shellgame/deal"
	"shellgame/path"
	"shellgame/word"
)

func (c Config) shape() deal.Shape {
	return deal.Shape{Depth: path.Depth(c.Leaves), Slots: c.Slots, Stash: c.Stash}
}

// round is how many cells the table has.
func (c Config) round() int { return word.Round(deal.Places(c.shape())) }

func (c Config) hasLeaf(leaf int) bool { return leaf >= 0 && leaf < c.Leaves }

// item is what a cell is to the dealer, on the way to a leaf.
func (c Config) item(cell api.Cell, from int) deal.Item {
	if !has(cell) {
		return deal.Item{Deep: -1}
	}
	return deal.Item{Id: cell[idWord], Deep: path.Deep(c.Leaves, int(cell[leafWord]), from)}
}

// plan is a config, and the first one of its three regions.
type plan struct {
	first int
	Config
}

func (p plan) tree() int { return p.first }

func (p plan) stash() int { return p.first + 1 }

func (p plan) table() int { return p.first + 2 }

// spot is where a cell is.
type spot struct{ region, at int }

func (s spot) read() api.Event { return api.Event{Region: s.region, At: s.at} }

func (s spot) written() api.Event { return api.Event{Region: s.region, At: s.at, Write: true} }

// spots are the cells of the way to a leaf, and of the stash: each stands where the dealer has its place.
func (p plan) spots(leaf int) []spot {
	var spots []spot
	for _, node := range path.Path(p.Leaves, leaf) {
		for slot := range p.Slots {
			spots = append(spots, spot{p.tree(), node*p.Slots + slot})
		}
	}
	for at := range p.Stash {
		spots = append(spots, spot{p.stash(), at})
	}
	return spots
}

func (p plan) tableSpots() []spot {
	var spots []spot
	for at := range p.round() {
		spots = append(spots, spot{p.table(), at})
	}
	return spots
}

package store

import (
	"iter"

	"shellgame/level"
)

// regionsOfLevel is how many regions a level has, wordsOfLevel how many words of the tape it takes: a fresh one, and a spare one.
const (
	regionsOfLevel = 3
	wordsOfLevel   = 2
)

// blocks is how many blocks a level has, and as many leaves.
func (c Config) blocks(h int) int {
	n := c.Blocks
	for range h {
		n /= Pack
	}
	return max(n, 1)
}

func (c Config) level(h int) level.Config {
	return level.Config{Leaves: c.blocks(h), Slots: c.Slots, Stash: c.Stash}
}

func (c Config) last() int { return c.Levels - 1 }

func (c Config) topCells() int { return c.blocks(c.last()) }

// fromLast goes over the levels from behind: none knows where a block of its own is ahead of the one above.
func (c Config) fromLast() iter.Seq[int] {
	return func(yield func(int) bool) {
		for h := c.last(); h >= 0; h-- {
			if !yield(h) {
				return
			}
		}
	}
}

// right tells whether there is such an access. A Part is none: it is what the levels above are for.
func (c Config) right(op int, id uint64) bool {
	return (op == level.Look || op == level.Put || op == level.Drop) && id < uint64(c.Blocks)
}

// haveLeaves tells whether there are these leaves, as the accesses of whole rounds meet them.
func (c Config) haveLeaves(leaves []int) bool {
	for i, leaf := range leaves {
		if h := c.last() - i%c.Levels; leaf < 0 || leaf >= c.blocks(h) {
			return false
		}
	}
	return true
}

// plan is a config, and the first one of its regions.
type plan struct {
	first int
	Config
}

func (p plan) top() int { return p.first }

// region is the first one of a level.
func (p plan) region(h int) int { return p.first + 1 + regionsOfLevel*h }

// meant is the block of a level that an id leads to.
func meant(id uint64, h int) uint64 {
	for range h {
		id /= Pack
	}
	return id
}

package config_test

import (
	"math"
	"slices"

	"shellgame/api"
	"shellgame/config"
	"shellgame/store"
)

// The twin says the chapter once more, from numbers that are written out, without the calls of any layer.

// said is what Why says.
type said struct {
	field string
	wrong api.Errno
}

func why(c config.Config) said {
	field, wrong := config.Why(c)
	return said{field, wrong}
}

// powers are those that a table, a sweep, or the blocks of a store may be as many as.
func powers() []int { return []int{1, 2, 4, 8, 16, 32, 64, 128, 256, 512, 1024} }

func nextPower(n int) int {
	for _, p := range powers() {
		if p >= n {
			return p
		}
	}
	return 0
}

// outOf is true of a number that is not from least to greatest.
func outOf(n, least, greatest int) bool { return !(least <= n && n <= greatest) }

func whyOf(c config.Config) said {
	switch {
	case outOf(c.Capacity, 1, 64):
		return said{"Capacity", api.ErrRange}
	case outOf(c.Batch, 1, 16):
		return said{"Batch", api.ErrRange}
	case outOf(c.Kicks, 1, 16):
		return said{"Kicks", api.ErrRange}
	case outOf(c.Spill, 1, 32):
		return said{"Spill", api.ErrRange}
	case c.Policy != 0 && c.Policy != 1 && c.Policy != 2:
		return said{"Policy", api.ErrRange}
	case outOf(c.Table, 1, 128):
		return said{"Table", api.ErrRange}
	case !slices.Contains(powers(), c.Table):
		return said{"Table", api.ErrForm}
	case c.Table-c.Capacity-c.Batch < 0:
		return said{"Table", api.ErrLong}
	case outOf(c.Slots, 1, 8), outOf(c.Stash, 1, 64), outOf(c.Levels, 1, 4):
		return said{"Levels", api.ErrArg}
	case c.Table == 128 && c.Slots > 4:
		// A tree of 512 leaves has 1023 nodes: of 4 slots each that is 4092 cells.
		return said{"Levels", api.ErrArg}
	}
	return said{"", api.OK}
}

func storeOf(c config.Config) store.Config {
	return store.Config{Blocks: nextPower(c.Table + c.Table + c.Capacity + c.Batch), Slots: c.Slots, Stash: c.Stash, Levels: c.Levels}
}

// sizesOf tells the store's regions from their blocks: each level has a quarter of the one below, but one at least.
func sizesOf(c config.Config) []int {
	blocks := storeOf(c).Blocks
	var levels []int
	top := 0
	for range c.Levels {
		depth := slices.Index(powers(), blocks)
		places := c.Slots*(depth+1) + c.Stash + 1
		levels = append(levels, c.Slots*(2*blocks-1), c.Stash, nextPower(places))
		top = blocks
		blocks = max(blocks/4, 1)
	}
	return append([]int{1, c.Spill, nextPower(c.Capacity + c.Batch), top}, levels...)
}

// wordsOf counts words one operation at a time.
func wordsOf(c config.Config, n int) int {
	words := 4
	for i := 1; i <= n && i <= 1048576; i++ {
		words += 2 * c.Levels * (c.Kicks + c.Kicks + 5)
		if i%c.Batch == 0 {
			words += 2 * c.Levels * (c.Capacity + c.Batch + 4*c.Batch)
		}
	}
	return words
}

// part is one number of a config.
type part struct {
	name            string
	of              func(c *config.Config) *int
	least, greatest int
	// What is told if it is not from least to greatest.
	told said
}

// parts are all numbers of a config, in the order in which they are told.
func parts() []part {
	return []part{
		{"Capacity", func(c *config.Config) *int { return &c.Capacity }, 1, 64, said{"Capacity", api.ErrRange}},
		{"Batch", func(c *config.Config) *int { return &c.Batch }, 1, 16, said{"Batch", api.ErrRange}},
		{"Kicks", func(c *config.Config) *int { return &c.Kicks }, 1, 16, said{"Kicks", api.ErrRange}},
		{"Spill", func(c *config.Config) *int { return &c.Spill }, 1, 32, said{"Spill", api.ErrRange}},
		{"Policy", func(c *config.Config) *int { return &c.Policy }, 0, 2, said{"Policy", api.ErrRange}},
		{"Table", func(c *config.Config) *int { return &c.Table }, 1, 128, said{"Table", api.ErrRange}},
		{"Slots", func(c *config.Config) *int { return &c.Slots }, 1, 8, said{"Levels", api.ErrArg}},
		{"Stash", func(c *config.Config) *int { return &c.Stash }, 1, 64, said{"Levels", api.ErrArg}},
		{"Levels", func(c *config.Config) *int { return &c.Levels }, 1, 4, said{"Levels", api.ErrArg}},
	}
}

// with is c, with another number as that part.
func (p part) with(c config.Config, n int) config.Config {
	*p.of(&c) = n
	return c
}

// outside are numbers that are not from least to greatest: those beside them, those at the edges of an int, and those that would be right if an int were narrower.
func (p part) outside() []int {
	l := []int{p.least - 1, p.least - 2, p.greatest + 1, p.greatest + 2, -p.greatest, -p.greatest - 1, 2 * p.greatest, math.MinInt, math.MinInt + 1, math.MinInt + p.greatest, math.MaxInt, math.MaxInt - 1, 1 << 62}
	for _, width := range []int{8, 16, 31, 32, 33, 48} {
		l = append(l, 1<<width+p.least, 1<<width+p.greatest, -1<<width+p.least, -1<<width+p.greatest)
	}
	return slices.DeleteFunc(l, func(n int) bool { return p.least <= n && n <= p.greatest })
}

// rights are right configs: the least, the greatest, one of all policies, and some between.
func rights() []config.Config {
	return []config.Config{
		{Capacity: 1, Batch: 1, Kicks: 1, Spill: 1, Table: 2, Slots: 1, Stash: 1, Levels: 1, Policy: config.LRU},
		{Capacity: 64, Batch: 16, Kicks: 16, Spill: 32, Table: 128, Slots: 4, Stash: 64, Levels: 4, Policy: config.LFU},
		{Capacity: 3, Batch: 2, Kicks: 2, Spill: 4, Table: 8, Slots: 2, Stash: 5, Levels: 2, Policy: config.LFU},
		{Capacity: 2, Batch: 1, Kicks: 2, Spill: 2, Table: 4, Slots: 2, Stash: 12, Levels: 2, Policy: config.LRU},
		{Capacity: 4, Batch: 4, Kicks: 3, Spill: 1, Table: 8, Slots: 8, Stash: 1, Levels: 4, Policy: config.FIFO},
		{Capacity: 1, Batch: 3, Kicks: 1, Spill: 7, Table: 128, Slots: 1, Stash: 33, Levels: 3, Policy: config.FIFO},
		{Capacity: 48, Batch: 16, Kicks: 5, Spill: 32, Table: 64, Slots: 8, Stash: 64, Levels: 1, Policy: config.LRU},
		{Capacity: 17, Batch: 5, Kicks: 16, Spill: 3, Table: 32, Slots: 3, Stash: 9, Levels: 3, Policy: config.LFU},
		{Capacity: 1, Batch: 15, Kicks: 4, Spill: 16, Table: 16, Slots: 5, Stash: 2, Levels: 4, Policy: config.FIFO},
		{Capacity: 64, Batch: 1, Kicks: 7, Spill: 9, Table: 128, Slots: 2, Stash: 20, Levels: 2, Policy: config.LFU},
	}
}

// chance makes numbers without a pattern, the same ones in each run.
type chance uint64

func (c *chance) below(n int) int {
	*c = *c*6364136223846793005 + 1442695040888963407
	return int(uint64(*c) >> 33 % uint64(n))
}

// anyConfig has right numbers, and now and then one that is not.
func anyConfig(by *chance) config.Config {
	var c config.Config
	for _, p := range parts() {
		*p.of(&c) = p.least + by.below(p.greatest-p.least+1)
		if by.below(20) == 0 {
			l := p.outside()
			*p.of(&c) = l[by.below(len(l))]
		}
	}
	// Few numbers are powers of two, and few tables as great as the cells.
	if by.below(4) > 0 {
		c.Table = powers()[by.below(8)]
	}
	if by.below(2) > 0 {
		c.Capacity = 1 + by.below(8)
		c.Batch = 1 + by.below(4)
	}
	return c
}

package config

import (
	"errors"
	"slices"

	"shellgame/api"
	"shellgame/store"
	"shellgame/word"
)

// The greatest numbers that are right; maxRegion is how many cells a memory has room for in one region.
const (
	maxCapacity = 64
	maxBatch    = 16
	maxKicks    = 16
	maxSpill    = 32
	maxTable    = 128
	maxRegion   = 4096
)

// Fault says which field of a config is wrong, and how.
type Fault struct {
	field string
	wrong api.Errno
}

func (f *Fault) Error() string { return f.field + " " + f.wrong.Error() }

// Unwrap lets errors.Is and errors.As find the Errno.
func (f *Fault) Unwrap() error { return f.wrong }

// Check tells what is wrong, Why in which field, and how.
func Check(c Config) error {
	for _, f := range c.findings() {
		if f.wrong != api.OK {
			return &f
		}
	}
	return nil
}

func Why(c Config) (string, api.Errno) {
	err := Check(c)
	var fault *Fault
	for _, e := range [...]api.Errno{api.ErrRange, api.ErrForm, api.ErrLong, api.ErrArg} {
		if errors.Is(err, e) && errors.As(err, &fault) {
			return fault.field, e
		}
	}
	return "", api.OK
}

// findings are what there is to tell of each field, in that order. That of one counts only if all ahead of it are right: it may hang on them.
func (c Config) findings() []Fault {
	return []Fault{
		{"Capacity", within(c.Capacity, 1, maxCapacity)},
		{"Batch", within(c.Batch, 1, maxBatch)},
		{"Kicks", within(c.Kicks, 1, maxKicks)},
		{"Spill", within(c.Spill, 1, maxSpill)},
		{"Policy", within(c.Policy, LRU, LFU)},
		{"Table", c.table()},
		{"Levels", c.levels()},
	}
}

func within(n, least, greatest int) api.Errno {
	if n < least || n > greatest {
		return api.ErrRange
	}
	return api.OK
}

func (c Config) table() api.Errno {
	if e := within(c.Table, 1, maxTable); e != api.OK {
		return e
	}
	if word.Round(c.Table) != c.Table {
		return api.ErrForm
	}
	if c.Table < c.cells() {
		return api.ErrLong
	}
	return api.OK
}

// levels answers for Slots and Stash, too: they have no name of their own in what is told.
func (c Config) levels() api.Errno {
	s := c.store()
	if !store.Right(s) || slices.Max(store.Sizes(s)) > maxRegion {
		return api.ErrArg
	}
	return api.OK
}

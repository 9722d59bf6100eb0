package cuckoo

import "shellgame/api"

// The words of an entry: is there one, its key and 1, its cell.
const (
	hasWord  = 0
	keyWord  = 1
	cellWord = 2
)

// all is the mask of yes.
const all = 1<<64 - 1

// entry is what is kept of a key. Noughts are none.
func entry(key, cell uint64) api.Data {
	var d api.Data
	d[hasWord], d[keyWord], d[cellWord] = 1, keyMark(key), cell
	return d
}

// keyMark is how a key is written: never as noughts are.
func keyMark(key uint64) uint64 { return key + 1 }

func has(d api.Data) bool { return d[hasWord] == 1 }

func keyOf(entry api.Data) uint64 { return entry[keyWord] - 1 }

// asCell is an entry as the spill keeps it, fromCell the one that it keeps.
func asCell(d api.Data) api.Cell {
	var c api.Cell
	copy(c[:], d[:])
	return c
}

func fromCell(c api.Cell) api.Data {
	var d api.Data
	copy(d[:], c[:])
	return d
}

func mask(yes bool) uint64 {
	if yes {
		return all
	}
	return 0
}

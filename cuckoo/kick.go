package cuckoo

import (
	"iter"

	"shellgame/api"
	"shellgame/level"
	"shellgame/scan"
)

// put is one that was done: in which block, and what was there.
type put struct {
	block uint64
	was   api.Data
}

type puts []put

// fromLast goes over them from behind: one block may have been put more than once, and what was there first has to come back last.
func (l puts) fromLast() iter.Seq[put] {
	return func(yield func(put) bool) {
		for i := len(l) - 1; i >= 0; i-- {
			if !yield(l[i]) {
				return
			}
		}
	}
}

// kick puts what is carried into one table, what that drove out into the other one, and so on, and tells what is carried at the end.
func (x *Index) kick(carried api.Data) (api.Data, puts) {
	var done puts
	for i := range x.kicks {
		block := x.block(i%tables, keyOf(carried))
		was := x.access(has(carried), level.Put, block, carried)
		done = append(done, put{block, was})
		carried = was
	}
	return carried, done
}

// putInSpill puts what is carried into the first cell that is free, and tells what is carried then.
func (x *Index) putInSpill(carried api.Data) api.Data {
	at, _, free := scan.Find(x.memory, x.spill, hasWord, 0)
	fits := mask(has(carried)) & free
	scan.Put(x.memory, x.spill, at, asCell(carried), fits)
	if fits == 0 {
		return carried
	}
	return api.Data{}
}

// undo makes as many accesses as there were kicks. If one is carried still, each kick put one.
func (x *Index) undo(done puts, still bool) {
	for p := range done.fromLast() {
		x.access(still, level.Put, p.block, p.was)
	}
}

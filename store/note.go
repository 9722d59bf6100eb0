package store

import (
	"shellgame/api"
	"shellgame/level"
	"shellgame/scan"
	"shellgame/word"
)

// noteWords is how many words a note has, all the mask of yes.
const (
	noteWords = 2
	all       = 1<<64 - 1
)

// note is what is said of where a block is: its leaf and 1 (0: nobody knows), and the place in the tape of the word that gave it that leaf.
type note [noteWords]uint64

func (n note) leaf() int { return int(n[0]) - 1 }

func (n note) place() int { return int(n[1]) }

// or is the note, or the spare one, if nobody knows: both are looked at alike.
func (n note) or(spare note) note {
	nobody := word.Zero(n[0])
	return note{word.Pick(nobody, spare[0], n[0]), word.Pick(nobody, spare[1], n[1])}
}

// draw is what an access takes of the tape for one level: where its block goes, and which way to go if nobody knows where it is.
type draw struct{ fresh, spare note }

// draw takes all words of an access: what a level says of the one below is known ahead of it.
func (s *Store) draw() []draw {
	draws := make([]draw, s.plan.Levels)
	for h := range s.plan.fromLast() {
		leaves := s.plan.blocks(h)
		draws[h].fresh = s.take(leaves)
		draws[h].spare = s.take(leaves)
	}
	return draws
}

func (s *Store) take(leaves int) note {
	n, place := s.tape.Next()
	return note{n%uint64(leaves) + 1, uint64(place)}
}

// top tells where the last level's block is, and notes where it will be.
func (s *Store) top(id uint64, fresh note) note {
	region, at := s.plan.top(), meant(id, s.plan.last())
	was := scan.Get(s.memory, region, at)
	scan.Put(s.memory, region, at, api.Cell{fresh[0], fresh[1]}, all)
	return note{was[0], was[1]}
}

// part goes the way of a level above: it tells where the block below is, and notes where it will be.
func (s *Store) part(h int, id uint64, from note, draws []draw) note {
	at := noteWords * int(meant(id, h-1)%Pack)
	below := draws[h-1].fresh
	was, _ := s.levels[h].Access(level.Part, meant(id, h), at, api.Data{below[0], below[1]}, from.leaf(), draws[h].fresh.leaf())
	return note{was[at], was[at+1]}
}

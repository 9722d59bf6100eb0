package sweep

import "shellgame/api"

// stateAt is the only cell of its region.
const stateAt = 0

// The words of a state.
const (
	headWord     = 0
	residentWord = 1
	madeWord     = 2
)

// State reads it, SetState writes it.
func (b *Box) State() State {
	c := b.M.Read(stateRegion, stateAt)
	return State{Head: int(c[headWord]), Resident: int(c[residentWord]), Made: int(c[madeWord])}
}

func (b *Box) SetState(s State) {
	b.M.Write(stateRegion, stateAt, api.Cell{
		headWord:     uint64(s.Head),
		residentWord: uint64(s.Resident),
		madeWord:     uint64(s.Made),
	})
}

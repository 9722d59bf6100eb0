package slot

import "shellgame/config"

// perUse is how much one use counts in a rank of LFU: more than a time ever does.
const perUse = 1 << 32

// Enter is the rank and the uses of what is entered, Use of what is used.
func Enter(policy int, now uint64) (uint64, uint64) {
	var rank, uses uint64
	switch policy {
	case config.LFU:
		rank = perUse
		fallthrough
	case config.LRU, config.FIFO:
		rank += now
		uses = 1
	}
	return rank, uses
}

func Use(policy int, s Slot, now uint64) (uint64, uint64) {
	rank, uses := s.Rank, s.Uses
	var weight uint64
	switch policy {
	case config.LFU:
		weight = perUse * (uses + 1)
		fallthrough
	case config.LRU:
		rank = weight + now
		fallthrough
	case config.FIFO:
		uses++
	}
	return rank, uses
}

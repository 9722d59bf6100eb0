package tape_test

import (
	"math"
	"slices"
	"testing"

	"shellgame/tape"
)

// wordsOf are many words that differ from each other, none of them 0.
func wordsOf(many int) []uint64 {
	l := make([]uint64, many)
	for i := range l {
		l[i] = (uint64(i) + 1) * 0x9e3779b97f4a7c15
	}
	return l
}

// wordAt says T1 of a single place: the word there, or 0 behind the end.
func wordAt(words []uint64, at int) uint64 {
	if at < len(words) {
		return words[at]
	}
	return 0
}

func checkState(t *testing.T, x *tape.Tape, used int, short bool) {
	t.Helper()
	if x.Used() != used || x.Short() != short {
		t.Errorf("used %d, short %v, want %d, %v", x.Used(), x.Short(), used, short)
	}
}

func checkNext(t *testing.T, x *tape.Tape, n uint64, at int) {
	t.Helper()
	if gotN, gotAt := x.Next(); gotN != n || gotAt != at {
		t.Errorf("Next() = %#x at %d, want %#x at %d", gotN, gotAt, n, at)
	}
}

func checkTake(t *testing.T, x *tape.Tape, n int, want []uint64) {
	t.Helper()
	if got := x.Take(n); !slices.Equal(got, want) {
		t.Errorf("Take(%d) = %#x, want %#x", n, got, want)
	}
}

// T1.

func TestNewHasReadNothing(t *testing.T) {
	for _, many := range []int{0, 1, 2, 100} {
		checkState(t, tape.New(wordsOf(many)), 0, false)
	}
	checkState(t, tape.New(nil), 0, false)
}

func TestNextGoesFromTheFirstWordOn(t *testing.T) {
	words := wordsOf(100)
	x := tape.New(words)
	for i, n := range words {
		checkNext(t, x, n, i)
		checkState(t, x, i+1, false)
	}
}

func TestNextTellsWordsOfAnyKind(t *testing.T) {
	words := []uint64{0, math.MaxUint64, 1 << 63, 7, 7, 0}
	x := tape.New(words)
	for i, n := range words {
		checkNext(t, x, n, i)
	}
	// A 0 that the tape has is a word, not its end.
	checkState(t, x, len(words), false)
}

func TestNextBehindTheEndAgainAndAgain(t *testing.T) {
	for _, many := range []int{0, 1, 2, 5} {
		words := wordsOf(many)
		x := tape.New(words)
		for i := range many + 50 {
			checkNext(t, x, wordAt(words, i), i)
			checkState(t, x, i+1, i >= many)
		}
	}
}

func TestTapeOfNoWords(t *testing.T) {
	for _, words := range [][]uint64{nil, {}, wordsOf(3)[:0]} {
		x := tape.New(words)
		checkState(t, x, 0, false)
		for i := range 3 {
			checkNext(t, x, 0, i)
			checkState(t, x, i+1, true)
		}
		checkTake(t, x, 2, []uint64{0, 0})
		checkState(t, x, 5, true)
	}
}

func TestUsedAndShortReadNothing(t *testing.T) {
	x := tape.New(wordsOf(1))
	for range 3 {
		checkState(t, x, 0, false)
	}
	checkNext(t, x, wordsOf(1)[0], 0)
	for range 3 {
		checkState(t, x, 1, false)
	}
	checkNext(t, x, 0, 1)
	for range 3 {
		checkState(t, x, 2, true)
	}
}

// T2.

func TestTakeOfBelowOneIsNothing(t *testing.T) {
	for _, n := range []int{0, -1, -5, math.MinInt} {
		x := tape.New(wordsOf(2))
		checkTake(t, x, n, nil)
		checkState(t, x, 0, false)
		checkNext(t, x, wordsOf(2)[0], 0)

		empty := tape.New(nil)
		checkTake(t, empty, n, nil)
		checkState(t, empty, 0, false)
	}
}

func TestTakeOfBelowOneBehindTheEnd(t *testing.T) {
	x := tape.New(wordsOf(1))
	x.Take(3)
	for _, n := range []int{0, -1, math.MinInt} {
		checkTake(t, x, n, nil)
		checkState(t, x, 3, true)
	}
}

func TestTakeIsSoManyNexts(t *testing.T) {
	for many := range 6 {
		for ahead := range 8 {
			for n := -1; n < 9; n++ {
				byTake, byNext := tape.New(wordsOf(many)), tape.New(wordsOf(many))
				want := []uint64{}
				for range ahead {
					byTake.Next()
					byNext.Next()
				}
				for range n {
					word, _ := byNext.Next()
					want = append(want, word)
				}
				checkTake(t, byTake, n, want)
				checkState(t, byTake, byNext.Used(), byNext.Short())
			}
		}
	}
}

func TestTakeOfJustAllIsNotShort(t *testing.T) {
	words := wordsOf(5)
	x := tape.New(words)
	checkTake(t, x, 5, words)
	checkState(t, x, 5, false)
	checkTake(t, x, 1, []uint64{0})
	checkState(t, x, 6, true)
}

func TestTakeOfMoreThanThereAre(t *testing.T) {
	words := wordsOf(3)
	x := tape.New(words)
	checkTake(t, x, 5, []uint64{words[0], words[1], words[2], 0, 0})
	checkState(t, x, 5, true)
	checkNext(t, x, 0, 5)
	checkTake(t, x, 2, []uint64{0, 0})
	checkState(t, x, 8, true)
}

func TestTakeOfFarMoreThanThereAre(t *testing.T) {
	const many = 1 << 20
	x := tape.New(wordsOf(1))
	got := x.Take(many)
	if len(got) != many || got[0] != wordsOf(1)[0] || slices.Max(got[1:]) != 0 {
		t.Errorf("Take(%d): %d words, not the one and noughts", many, len(got))
	}
	checkState(t, x, many, true)
	checkNext(t, x, 0, many)
}

// T3.

func TestPlacesAreAllNumbersWhateverIsTaken(t *testing.T) {
	for many := range 12 {
		words := wordsOf(many)
		x := tape.New(words)
		read := 0
		for _, n := range []int{2, 0, 1, -3, 3, 4} {
			checkNext(t, x, wordAt(words, read), read)
			read++
			want := []uint64{}
			for range n {
				want = append(want, wordAt(words, read))
				read++
			}
			checkTake(t, x, n, want)
			checkState(t, x, read, read > many)
		}
	}
}

func TestWordsThatWereHandedInStay(t *testing.T) {
	room := wordsOf(6)
	words := room[1:3]
	x := tape.New(words)
	x.Next()
	for i := range 4 {
		taken := x.Take(i)
		for j := range taken {
			taken[j] = 1
		}
	}
	if !slices.Equal(room, wordsOf(6)) {
		t.Errorf("the words that were handed in became %#x", room)
	}
}

func TestWhatIsDoneToTheWordsIsNotSeen(t *testing.T) {
	words := wordsOf(4)
	x := tape.New(words)
	clear(words)
	checkNext(t, x, wordsOf(4)[0], 0)
	words[1], words[2] = 5, 6
	checkTake(t, x, 3, wordsOf(4)[1:])
	words = append(words[:1], 1, 2, 3, 4)
	checkNext(t, x, 0, 4)
	checkState(t, x, 5, true)
	if !slices.Equal(words, []uint64{0, 1, 2, 3, 4}) {
		t.Errorf("the caller's words became %#x", words)
	}
}

func TestWhatLiesBehindTheLengthIsNoWord(t *testing.T) {
	room := wordsOf(4)
	x := tape.New(room[:2])
	checkTake(t, x, 3, []uint64{room[0], room[1], 0})
	checkState(t, x, 3, true)
	checkNext(t, x, 0, 3)
}

func TestWhatIsDoneToTakenWordsIsNotSeen(t *testing.T) {
	words := wordsOf(6)
	x := tape.New(words)
	first := x.Take(2)
	second := x.Take(2)
	clear(first)
	_ = append(first, 1, 2, 3, 4)
	if !slices.Equal(second, words[2:4]) {
		t.Errorf("the second list became %#x", second)
	}
	_ = append(second, 1, 2)
	checkTake(t, x, 2, words[4:])
}

func TestTapesOfTheSameWordsAreApart(t *testing.T) {
	words := wordsOf(2)
	x, y := tape.New(words), tape.New(words)
	x.Take(3)
	checkState(t, y, 0, false)
	checkTake(t, y, 2, words)
	checkState(t, y, 2, false)
	checkState(t, x, 3, true)
}

func TestChapterExample(t *testing.T) {
	x := tape.New([]uint64{7})
	checkNext(t, x, 7, 0)
	checkState(t, x, 1, false)
	checkNext(t, x, 0, 1)
	checkState(t, x, 2, true)
}

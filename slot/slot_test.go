package slot_test

import (
	"math"
	"sync"
	"testing"

	"shellgame/api"
	"shellgame/pack"
	"shellgame/slot"
)

// entry is a used slot whose words are all unlike.
func entry() slot.Slot {
	return slot.Slot{Used: true, Key: wordOf("k"), Value: wordOf("vv"), Until: 3, Rank: 4, Uses: 5}
}

// checkRight asks all of S1 of a slot that is, and S4: it is read again from its block.
func checkRight(t *testing.T, s slot.Slot) {
	t.Helper()
	if !slot.Right(s) {
		t.Errorf("Right(%+v) = false", s)
	}
	d := dataOf(s)
	if got := slot.Data(s); got != d {
		t.Errorf("Data(%+v) = %v, not %v", s, got, d)
	}
	if got, e := slot.Read(d); got != s || e != api.OK {
		t.Errorf("Read(%v) = %+v, %v, not %+v", d, got, e, s)
	}
}

// checkWrong asks all of S1 of one that is not, and that nothing is read from the words that it would be laid out as.
func checkWrong(t *testing.T, s slot.Slot) {
	t.Helper()
	if slot.Right(s) {
		t.Errorf("Right(%+v) = true", s)
	}
	if got := slot.Data(s); got != (api.Data{}) {
		t.Errorf("Data(%+v) = %v", s, got)
	}
	laid := api.Data{0, s.Key, s.Value, s.Until, s.Rank, s.Uses, uint64(s.Next)}
	if s.Used {
		laid[0] = 1
	}
	checkNoSlot(t, laid)
}

func checkSlot(t *testing.T, s slot.Slot) {
	t.Helper()
	if rightSlot(s) {
		checkRight(t, s)
	} else {
		checkWrong(t, s)
	}
}

func checkNoSlot(t *testing.T, d api.Data) {
	t.Helper()
	if s, e := slot.Read(d); s != (slot.Slot{}) || e != api.ErrForm {
		t.Errorf("Read(%v) = %+v, %v", d, s, e)
	}
}

// checkData asks whether a block is read as the twin does, and S4 the other way round: what is read is laid out as it was.
func checkData(t *testing.T, d api.Data) {
	t.Helper()
	want, there := slotOf(d)
	if !there {
		checkNoSlot(t, d)
		return
	}
	if s, e := slot.Read(d); s != want || e != api.OK {
		t.Errorf("Read(%v) = %+v, %v, not %+v", d, s, e, want)
	}
	if !slot.Right(want) {
		t.Errorf("Right(%+v) = false, but it is read", want)
	}
	if back := slot.Data(want); back != d {
		t.Errorf("%v is read, and laid out as %v", d, back)
	}
}

// S1.

func TestSlotsWrittenOut(t *testing.T) {
	for _, x := range []struct {
		s slot.Slot
		d api.Data
	}{
		{slot.Slot{}, api.Data{}},
		{slot.Slot{Next: 1}, api.Data{0, 0, 0, 0, 0, 0, 1, 0}},
		{slot.Slot{Next: 80}, api.Data{0, 0, 0, 0, 0, 0, 80, 0}},
		{slot.Slot{Next: 1 << 31}, api.Data{0, 0, 0, 0, 0, 0, 2147483648, 0}},
		{slot.Slot{Used: true}, api.Data{1, 0, 0, 0, 0, 0, 0, 0}},
		{entry(), api.Data{1, 0x0100_0000_0000_006b, 0x0200_0000_0000_7676, 3, 4, 5, 0, 0}},
		{slot.Slot{Used: true, Key: 1 << 56, Rank: greatest}, api.Data{1, 1 << 56, 0, 0, greatest, 0, 0, 0}},
		{slot.Slot{Used: true, Value: 1<<59 - 1, Uses: greatest}, api.Data{1, 0, 1<<59 - 1, 0, 0, greatest, 0, 0}},
		{slot.Slot{Used: true, Until: greatest}, api.Data{1, 0, 0, greatest, 0, 0, 0, 0}},
	} {
		if dataOf(x.s) != x.d {
			t.Fatal("the twin", x.s, dataOf(x.s))
		}
		checkRight(t, x.s)
		checkData(t, x.d)
	}
}

// The words that pack makes are those of the twin: its texts are keys and values.
func TestTextsAreKeysAndValues(t *testing.T) {
	for _, key := range texts() {
		for _, value := range texts() {
			k, wrong := pack.Word(key)
			v, wrongToo := pack.Word(value)
			if wrong != api.OK || wrongToo != api.OK || k != wordOf(key) || v != wordOf(value) {
				t.Fatal(key, value, k, v)
			}
			checkRight(t, slot.Slot{Used: true, Key: k, Value: v})
			checkRight(t, slot.Slot{Used: true, Key: k, Value: v, Until: 9, Rank: 8, Uses: 7})
		}
	}
}

func TestKeysAndValuesThatAreNoTexts(t *testing.T) {
	for _, n := range noWords() {
		if isText(n) {
			t.Fatalf("%#x is a text's", n)
		}
		for _, other := range []uint64{0, wordOf("k"), wordOf("abcdefg"), 3, greatest} {
			checkWrong(t, slot.Slot{Used: true, Key: n, Value: other})
			checkWrong(t, slot.Slot{Used: true, Key: other, Value: n})
			checkWrong(t, slot.Slot{Used: true, Key: n, Value: other, Until: 3, Rank: 4, Uses: 5})
			checkWrong(t, slot.Slot{Used: true, Key: other, Value: n, Until: 3, Rank: 4, Uses: 5})
		}
	}
}

// Until, Rank and Uses of what is used are any words: they need be no texts'.
func TestAnyNumberOfWhatIsUsed(t *testing.T) {
	for _, n := range numbers() {
		for _, s := range []slot.Slot{entry(), {Used: true}} {
			until, rank, uses, all := s, s, s, s
			until.Until, rank.Rank, uses.Uses = n, n, n
			all.Until, all.Rank, all.Uses = n, n+1, n+2
			for _, x := range []slot.Slot{until, rank, uses, all} {
				checkRight(t, x)
			}
		}
	}
}

// What is used has no Next, not even one that would be right of another.
func TestANextOfWhatIsUsed(t *testing.T) {
	for _, next := range append(nexts(), noNexts()...) {
		if next == 0 {
			continue
		}
		s := entry()
		s.Next = next
		checkWrong(t, s)
		checkWrong(t, slot.Slot{Used: true, Next: next})
	}
}

func TestNextsOfWhatIsNotUsed(t *testing.T) {
	for _, next := range nexts() {
		checkRight(t, slot.Slot{Next: next})
	}
	for _, next := range noNexts() {
		checkWrong(t, slot.Slot{Next: next})
	}
}

// parts are the words of a slot, whatever it is.
func parts() []func(*slot.Slot) *uint64 {
	return []func(*slot.Slot) *uint64{
		func(s *slot.Slot) *uint64 { return &s.Key },
		func(s *slot.Slot) *uint64 { return &s.Value },
		func(s *slot.Slot) *uint64 { return &s.Until },
		func(s *slot.Slot) *uint64 { return &s.Rank },
		func(s *slot.Slot) *uint64 { return &s.Uses },
	}
}

// Of what is not used all else is 0: be it one that is not, or two.
func TestWhatIsNotUsedSaysNothing(t *testing.T) {
	for i, first := range parts() {
		for _, n := range append(numbers(), words()...) {
			if n == 0 {
				continue
			}
			for _, next := range []int{0, 1, 1 << 31, 1<<31 + 1, -1} {
				s := slot.Slot{Next: next}
				*first(&s) = n
				checkWrong(t, s)
			}
			for _, second := range parts()[i+1:] {
				s := slot.Slot{}
				*first(&s), *second(&s) = n, n
				checkWrong(t, s)
			}
		}
	}
	s := entry()
	s.Used = false
	checkWrong(t, s)
}

// A block whose first word is neither 0 nor 1 is none, whatever follows.
func TestTheFirstWordOfABlock(t *testing.T) {
	for _, n := range append(numbers(), noWords()...) {
		for _, d := range []api.Data{{}, {6: 5}, slot.Data(entry()), {1: wordOf("k")}, {6: 1 << 31}} {
			d[0] = n
			checkData(t, d)
			if n > 1 {
				checkNoSlot(t, d)
			}
		}
	}
}

func TestTheLastWordOfABlock(t *testing.T) {
	for _, n := range append(numbers(), noWords()...) {
		if n == 0 {
			continue
		}
		for _, d := range []api.Data{{}, {6: 5}, {6: 1 << 31}, {1}, slot.Data(entry())} {
			d[7] = n
			checkNoSlot(t, d)
		}
	}
}

// A Next is a word there: great ones are below 0 as an int.
func TestTheNextWordOfABlock(t *testing.T) {
	for _, n := range numbers() {
		checkData(t, api.Data{6: n})
		if n > 1<<31 {
			checkNoSlot(t, api.Data{6: n})
		}
		if n > 0 {
			d := slot.Data(entry())
			d[6] = n
			checkNoSlot(t, d)
			checkNoSlot(t, api.Data{0: 1, 6: n})
		}
	}
	for _, n := range []uint64{1<<31 + 1, 1<<32 + 1, 1<<63 + 1, 1 << 63, 1<<63 + 1<<31, greatest, greatest - 1<<31, greatest - 1<<31 + 1} {
		checkNoSlot(t, api.Data{6: n})
	}
}

// Each word of a block by itself, and two of them, at all kinds of numbers.
func TestEachWordOfABlock(t *testing.T) {
	some := []uint64{0, 1, 2, 5, 1 << 31, 1<<31 + 1, wordOf("k"), wordOf("abcdefg"), 8 * top, 1 << 63, greatest}
	for _, d := range []api.Data{{}, {1}, {6: 5}, slot.Data(entry())} {
		for i := range d {
			for _, n := range append(append(numbers(), words()...), noWords()...) {
				one := d
				one[i] = n
				checkData(t, one)
			}
			for j := range i {
				for _, n := range some {
					for _, m := range some {
						two := d
						two[i], two[j] = n, m
						checkData(t, two)
					}
				}
			}
		}
	}
}

// Unlike slots are unlike blocks: S4 of all pairs of some.
func TestUnlikeSlotsAreUnlikeBlocks(t *testing.T) {
	seen := map[api.Data]slot.Slot{}
	note := func(s slot.Slot) {
		d := slot.Data(s)
		if other, there := seen[d]; there && other != s {
			t.Errorf("%+v and %+v are both %v", s, other, d)
		}
		seen[d] = s
	}
	for _, next := range nexts() {
		note(slot.Slot{Next: next})
	}
	for _, part := range parts() {
		for _, n := range words() {
			s := slot.Slot{Used: true}
			*part(&s) = n
			note(s)
		}
	}
}

// anySlot is one that often is nearly right.
func anySlot(by *chance) slot.Slot {
	pick := func() uint64 {
		switch by.below(5) {
		case 0:
			return 0
		case 1:
			return by.word()
		case 2:
			return noWords()[by.below(len(noWords()))]
		}
		return words()[by.below(len(words()))]
	}
	s := slot.Slot{Used: by.below(4) > 0}
	if s.Used || by.below(4) == 0 {
		s.Key, s.Value, s.Until, s.Rank, s.Uses = pick(), pick(), pick(), pick(), pick()
	}
	if !s.Used || by.below(8) == 0 {
		l := append(nexts(), noNexts()...)
		s.Next = l[by.below(len(l))]
	}
	return s
}

func TestAnySlot(t *testing.T) {
	by := chance(15)
	right := 0
	const tries = 20000
	for range tries {
		s := anySlot(&by)
		checkSlot(t, s)
		if rightSlot(s) {
			right++
		}
	}
	if right < tries/5 || right > tries*4/5 {
		t.Errorf("%d of %d slots were right", right, tries)
	}
}

func TestAnyBlock(t *testing.T) {
	by := chance(51)
	for range 20000 {
		var d api.Data
		for i := range d {
			switch by.below(3) {
			case 0:
				d[i] = by.word() >> by.below(64)
			case 1:
				d[i] = words()[by.below(len(words()))]
			}
		}
		checkData(t, d)
		d[0], d[6], d[7] = d[0]%2, 0, 0
		checkData(t, d)
	}
}

// P3: what is handed in is a copy, what is told another one.
func TestBlocksAreApart(t *testing.T) {
	s := entry()
	d := slot.Data(s)
	s.Rank, s.Used = 99, false
	if d != dataOf(entry()) {
		t.Error(d)
	}
	read, _ := slot.Read(d)
	d[4], d[0] = 98, 0
	if read != entry() || slot.Data(entry()) != dataOf(entry()) {
		t.Error(read)
	}
}

// S2.

func checkExpired(t *testing.T, s slot.Slot, now uint64, want bool) {
	t.Helper()
	if slot.Expired(s, now) != want {
		t.Errorf("Expired(%+v, %d) = %v", s, now, !want)
	}
}

func TestExpired(t *testing.T) {
	for _, x := range []struct {
		until, now uint64
		want       bool
	}{
		{5, 0, false}, {5, 4, false}, {5, 5, true}, {5, 6, true}, {5, 1 << 63, true}, {5, greatest, true},
		{1, 0, false}, {1, 1, true}, {1, 2, true}, {1, greatest, true},
		{0, 0, false}, {0, 1, false}, {0, 1 << 63, false}, {0, greatest, false},
		{greatest, 0, false}, {greatest, greatest - 1, false}, {greatest, greatest, true}, {greatest, 1 << 63, false},
		{1 << 63, 1<<63 - 1, false}, {1 << 63, 1 << 63, true}, {1 << 63, 5, false}, {1<<63 - 1, 1 << 63, true},
		{1 << 32, 1<<32 - 1, false}, {1 << 32, 1 << 32, true}, {1 << 32, 5, false}, {1<<32 + 5, 6, false}, {7, 1 << 32, true},
	} {
		s := entry()
		s.Until = x.until
		checkExpired(t, s, x.now, x.want)
		checkExpired(t, slot.Slot{Used: true, Until: x.until}, x.now, x.want)
		s.Used = false
		checkExpired(t, s, x.now, false)
		checkExpired(t, slot.Slot{Until: x.until, Next: 3}, x.now, false)
	}
	checkExpired(t, slot.Slot{}, 0, false)
	checkExpired(t, slot.Slot{}, greatest, false)
	checkExpired(t, slot.Slot{Next: 5}, 5, false)
}

// Nothing but Used and Until counts, not even whether the slot is right.
func TestExpiredOfSlotsThatAreNotRight(t *testing.T) {
	for _, s := range []slot.Slot{
		{Used: true, Key: 1, Until: 5}, {Used: true, Value: 1, Until: 5}, {Used: true, Until: 5, Next: -1}, {Used: true, Until: 5, Next: 1<<31 + 1},
		{Used: true, Key: greatest, Value: greatest, Until: 5, Rank: greatest, Uses: greatest, Next: math.MinInt},
	} {
		checkExpired(t, s, 4, false)
		checkExpired(t, s, 5, true)
		checkExpired(t, s, 6, true)
		s.Until = 0
		checkExpired(t, s, 6, false)
		s.Until, s.Used = 5, false
		checkExpired(t, s, 6, false)
	}
}

func TestExpiredAtEachNumber(t *testing.T) {
	for _, until := range numbers() {
		for _, now := range numbers() {
			for _, s := range []slot.Slot{{Used: true, Until: until}, {Until: until}, {Used: true, Until: until, Rank: now, Uses: 3}} {
				checkExpired(t, s, now, expired(s, now))
			}
		}
	}
}

// P4: what is told does not hang on what was told before, or is told beside it.
func TestAnswersStay(t *testing.T) {
	var all sync.WaitGroup
	for turn := range 4 {
		all.Go(func() {
			by := chance(turn)
			for range 2000 {
				s, now, policy := anySlot(&by), by.word(), by.below(5)-1
				d := slot.Data(s)
				read, e := slot.Read(d)
				if d != dataOf(s) || slot.Right(s) != rightSlot(s) || read != anyOf(d) || e != api.OK {
					t.Error(s, d, read, e)
				}
				if slot.Expired(s, now) != expired(s, now) || enter(policy, now) != entered(policy, now) || use(policy, s, now) != used(policy, s, now) {
					t.Error(s, policy, now)
				}
			}
		})
	}
	all.Wait()
}

func anyOf(d api.Data) slot.Slot {
	s, _ := slotOf(d)
	return s
}

package slot_test

import (
	"math"
	"testing"

	"shellgame/config"
	"shellgame/slot"
)

func policies() []int { return []int{config.LRU, config.FIFO, config.LFU} }

func checkEnter(t *testing.T, policy int, now uint64, want ranks) {
	t.Helper()
	if got := enter(policy, now); got != want {
		t.Errorf("Enter(%d, %d) = %v, not %v", policy, now, got, want)
	}
}

func checkUse(t *testing.T, policy int, s slot.Slot, now uint64, want ranks) {
	t.Helper()
	if got := use(policy, s, now); got != want {
		t.Errorf("Use(%d, %+v, %d) = %v, not %v", policy, s, now, got, want)
	}
}

// withRanks is an entry of that Rank and these Uses.
func withRanks(r ranks) slot.Slot {
	s := entry()
	s.Rank, s.Uses = r.rank, r.uses
	return s
}

// The chapter's examples.
func TestExamples(t *testing.T) {
	for _, x := range []struct {
		policy       int
		entered, use uint64
	}{
		{config.LRU, 7, 9},
		{config.FIFO, 7, 7},
		{config.LFU, 1<<32 + 7, 1<<33 + 9},
	} {
		checkEnter(t, x.policy, 7, ranks{x.entered, 1})
		checkUse(t, x.policy, withRanks(enter(x.policy, 7)), 9, ranks{x.use, 2})
	}
}

// S3, written out.

func TestEnter(t *testing.T) {
	for _, x := range []struct{ now, plain, lfu uint64 }{
		{0, 0, 4294967296},
		{1, 1, 4294967297},
		{7, 7, 4294967303},
		{1<<32 - 1, 4294967295, 8589934591},
		{1 << 32, 4294967296, 8589934592},
		{1 << 63, 1 << 63, 1<<63 + 1<<32},
		{greatest - 1<<32, greatest - 1<<32, greatest},
		{greatest - 1<<32 + 1, greatest - 1<<32 + 1, 0},
		{greatest - 1, greatest - 1, 1<<32 - 2},
		{greatest, greatest, 1<<32 - 1},
	} {
		checkEnter(t, config.LRU, x.now, ranks{x.plain, 1})
		checkEnter(t, config.FIFO, x.now, ranks{x.plain, 1})
		checkEnter(t, config.LFU, x.now, ranks{x.lfu, 1})
	}
}

func TestUse(t *testing.T) {
	for _, x := range []struct {
		was       ranks
		now       uint64
		lfu, uses uint64
	}{
		{ranks{0, 0}, 0, 1 << 32, 1},
		{ranks{3, 0}, 9, 1<<32 + 9, 1},
		{ranks{3, 1}, 9, 2<<32 + 9, 2},
		{ranks{3, 4}, 7, 5<<32 + 7, 5},
		{ranks{9, 2}, 3, 3<<32 + 3, 3},
		{ranks{greatest, 6}, 0, 7 << 32, 7},
		{ranks{1 << 63, 1<<31 - 1}, 1, 1<<63 + 1, 1 << 31},
		{ranks{5, 1<<32 - 2}, 8, greatest - 1<<32 + 1 + 8, 1<<32 - 1},
		{ranks{5, 1<<32 - 1}, 8, 8, 1 << 32},
		{ranks{5, 1 << 32}, 8, 1<<32 + 8, 1<<32 + 1},
		{ranks{5, greatest - 1}, 8, greatest - 1<<32 + 1 + 8, greatest},
		{ranks{5, greatest}, 8, 8, 0},
		{ranks{5, 0}, greatest, 1<<32 - 1, 1},
		{ranks{5, 1<<32 - 2}, greatest, greatest - 1<<32, 1<<32 - 1},
		{ranks{greatest, greatest}, greatest, greatest, 0},
	} {
		s := withRanks(x.was)
		checkUse(t, config.LRU, s, x.now, ranks{x.now, x.uses})
		checkUse(t, config.FIFO, s, x.now, ranks{x.was.rank, x.uses})
		checkUse(t, config.LFU, s, x.now, ranks{x.lfu, x.uses})
	}
}

// Of a policy that is none nothing is entered, and nothing is another one when it is used.
func TestPoliciesThatAreNone(t *testing.T) {
	for _, policy := range wrongPolicies() {
		for _, now := range []uint64{0, 1, 7, 1 << 32, 1 << 63, greatest} {
			checkEnter(t, policy, now, ranks{})
			for _, was := range []ranks{{}, {3, 4}, {0, 1}, {1, 0}, {now, 1}, {greatest, greatest}, {1 << 63, 1 << 32}} {
				checkUse(t, policy, withRanks(was), now, was)
				checkUse(t, policy, slot.Slot{Rank: was.rank, Uses: was.uses}, now, was)
			}
		}
	}
}

// Nothing but its Rank and its Uses counts: not whether it is used, or right, or expired.
func TestUseOfAnySlot(t *testing.T) {
	for policy := -1; policy <= 3; policy++ {
		for _, s := range []slot.Slot{
			{Rank: 3, Uses: 4}, {Used: true, Rank: 3, Uses: 4}, {Used: true, Until: 5, Rank: 3, Uses: 4}, {Until: 9, Rank: 3, Uses: 4}, {Next: 8, Rank: 3, Uses: 4},
			{Used: true, Key: 1, Value: greatest, Until: 1 << 63, Rank: 3, Uses: 4, Next: math.MinInt},
			{Key: wordOf("k"), Value: wordOf("v"), Rank: 3, Uses: 4, Next: math.MaxInt},
		} {
			checkUse(t, policy, s, 9, used(policy, slot.Slot{Rank: 3, Uses: 4}, 9))
		}
		checkUse(t, policy, slot.Slot{}, 0, used(policy, slot.Slot{}, 0))
	}
}

func TestEnterAndUseAtEachNumber(t *testing.T) {
	l := numbers()
	for policy := -1; policy <= 3; policy++ {
		for i, now := range l {
			checkEnter(t, policy, now, entered(policy, now))
			for j, uses := range l {
				was := ranks{l[(i+5*j)%len(l)], uses}
				s := withRanks(was)
				checkUse(t, policy, s, now, used(policy, s, now))
			}
		}
	}
}

// S4: of times that rise the Rank of what is used rises, or stays of FIFO; and the uses are counted.
func TestRanksOfTimesThatRise(t *testing.T) {
	by := chance(4)
	for _, policy := range policies() {
		for range 200 {
			now := uint64(by.below(1000))
			start := now
			s := withRanks(enter(policy, now))
			for uses := uint64(2); uses < 60; uses++ {
				now += 1 + uint64(by.below(1<<by.below(25)))
				was := s.Rank
				s = withRanks(use(policy, s, now))
				if policy == config.FIFO && s.Rank != start || policy != config.FIFO && s.Rank <= was {
					t.Fatalf("policy %d at %d: from %d to %d", policy, now, was, s.Rank)
				}
				if s.Uses != uses {
					t.Fatalf("policy %d: %d uses, not %d", policy, s.Uses, uses)
				}
			}
		}
	}
}

// What the ranks are for: at the times that a program has, the least one is that of the policy's own choice.
func TestWhoseRankIsTheLeast(t *testing.T) {
	first := func(policy int) ranks { // entered at 1, used at 5 and 6
		return use(policy, withRanks(use(policy, withRanks(enter(policy, 1)), 5)), 6)
	}
	second := func(policy int) ranks { // entered at 2, used at 2^31 - 1
		return use(policy, withRanks(enter(policy, 2)), 1<<31-1)
	}
	third := func(policy int) ranks { return enter(policy, 7) }
	for _, x := range []struct {
		policy  int
		in      []func(int) ranks
		because string
	}{
		{config.LRU, []func(int) ranks{first, third, second}, "last used"},
		{config.FIFO, []func(int) ranks{first, second, third}, "entered"},
		{config.LFU, []func(int) ranks{third, second, first}, "uses"},
	} {
		for i := range 2 {
			if a, b := x.in[i](x.policy), x.in[i+1](x.policy); a.rank >= b.rank {
				t.Errorf("by %s: %v is not ahead of %v", x.because, a, b)
			}
		}
	}
}

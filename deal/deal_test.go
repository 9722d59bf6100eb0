package deal_test

import (
	"math"
	"slices"
	"testing"

	"shellgame/deal"
)

const greatest = math.MaxUint64

// of makes items of Deeps; their Ids are 1, 2, ..
func of(deeps ...int) []deal.Item {
	l := make([]deal.Item, len(deeps))
	for i, d := range deeps {
		l[i] = deal.Item{Id: uint64(i + 1), Deep: d}
	}
	return l
}

// alike are n numbers that are all the same.
func alike(n, number int) []int { return slices.Repeat([]int{number}, n) }

// upTo are the numbers from first on, as many as that.
func upTo(first, many int) []int {
	l := make([]int, many)
	for i := range l {
		l[i] = first + i
	}
	return l
}

// chance makes numbers below a bound, without a pattern, the same ones in each run.
type chance uint64

func (c *chance) below(n int) int {
	*c = *c*6364136223846793005 + 1442695040888963407
	return int(uint64(*c)>>33) % n
}

// rightShapes are all that are right.
func rightShapes() []deal.Shape {
	var l []deal.Shape
	for depth := range 11 {
		for slots := 1; slots <= 8; slots++ {
			for stash := 1; stash <= 64; stash++ {
				l = append(l, deal.Shape{Depth: depth, Slots: slots, Stash: stash})
			}
		}
	}
	return l
}

// someShapes are right ones: the edges of each number, and a few between.
func someShapes() []deal.Shape {
	var l []deal.Shape
	for _, depth := range []int{0, 1, 2, 3, 5, 9, 10} {
		for _, slots := range []int{1, 2, 4, 7, 8} {
			for _, stash := range []int{1, 2, 5, 63, 64} {
				l = append(l, deal.Shape{Depth: depth, Slots: slots, Stash: stash})
			}
		}
	}
	return l
}

// smallShapes are those with so few places that all ways to fill them can be gone through.
func smallShapes() []deal.Shape {
	return []deal.Shape{
		{Depth: 0, Slots: 1, Stash: 1}, {Depth: 0, Slots: 1, Stash: 2}, {Depth: 0, Slots: 2, Stash: 1}, {Depth: 0, Slots: 3, Stash: 2},
		{Depth: 1, Slots: 1, Stash: 1}, {Depth: 1, Slots: 1, Stash: 3}, {Depth: 1, Slots: 2, Stash: 1}, {Depth: 1, Slots: 2, Stash: 2},
		{Depth: 2, Slots: 1, Stash: 1}, {Depth: 2, Slots: 1, Stash: 2}, {Depth: 3, Slots: 1, Stash: 1}, {Depth: 3, Slots: 1, Stash: 2},
	}
}

// wrongShapes are those whose one, two or three numbers are at the edges of right ones, of other kinds of int, and of an int.
func wrongShapes() []deal.Shape {
	edges := []int{math.MinInt, math.MinInt + 1, -1 << 32, -64, -8, -2, -1, 11, 12, 65, 66, 256, 1 << 16, 1 << 32, 1<<32 + 1, 1 << 62, math.MaxInt - 1, math.MaxInt}
	depths := append([]int{0, 1, 10}, edges...)
	slots := append([]int{0, 1, 8, 9, 10}, edges...)
	stashes := append([]int{0, 1, 64}, edges...)
	var l []deal.Shape
	for _, depth := range depths {
		for _, slot := range slots {
			for _, stash := range stashes {
				l = append(l, deal.Shape{Depth: depth, Slots: slot, Stash: stash})
			}
		}
	}
	right := rightShapes()
	return slices.DeleteFunc(l, func(s deal.Shape) bool { return slices.Contains(right, s) })
}

// mixedItems are items without a pattern: of each kind that the chapter tells apart, many of them alike in Deep, some in Id.
func mixedItems(n, depth, empty int, c *chance) []deal.Item {
	l := make([]deal.Item, n)
	for i := range l {
		l[i] = deal.Item{Id: uint64(c.below(n)), Deep: c.below(depth + 1)}
		if c.below(10) < empty {
			l[i].Deep = []int{-1, -2, -depth - 1, math.MinInt}[c.below(4)]
		}
		if c.below(8) == 0 {
			l[i].Deep = []int{0, depth, depth + 1, depth + 2, math.MaxInt}[c.below(5)]
		}
		if c.below(8) == 0 {
			l[i].Id = []uint64{0, greatest, greatest - 1, 1 << 63}[c.below(4)]
		}
	}
	return l
}

// goesAhead is what D1 says of two items, the first of which stands ahead of the second one: does it go ahead in Order, too?
func goesAhead(first, second deal.Item) bool {
	switch {
	case first.Deep < 0:
		return second.Deep < 0
	case second.Deep < 0:
		return true
	case first.Deep != second.Deep:
		return first.Deep > second.Deep
	}
	return first.Id <= second.Id
}

// ordered says D1 another way: an item's rank is how many go ahead of it.
func ordered(l []deal.Item) []int {
	order := make([]int, len(l))
	for i := range l {
		rank := 0
		for j := range i {
			if goesAhead(l[j], l[i]) {
				rank++
			}
		}
		for j := i + 1; j < len(l); j++ {
			if !goesAhead(l[i], l[j]) {
				rank++
			}
		}
		order[rank] = i
	}
	return order
}

// dealt says D2 another way: level by level, from the deepest one up, each takes of those that are left the first that may lie there.
func dealt(s deal.Shape, l []deal.Item) (places, lost []int) {
	hand := slices.DeleteFunc(ordered(l), func(i int) bool { return l[i].Deep < 0 })
	holder := map[int]int{}
	for level := s.Depth; level >= 0; level-- {
		for slot := range s.Slots {
			if len(hand) > 0 && l[hand[0]].Deep >= level {
				holder[level*s.Slots+slot] = hand[0]
				hand = hand[1:]
			}
		}
	}
	for i := range min(s.Stash, len(hand)) {
		holder[(s.Depth+1)*s.Slots+i] = hand[0]
		hand = hand[1:]
	}
	places = alike(len(l), -1)
	for place, i := range holder {
		places[i] = place
	}
	for place := range l {
		if _, ok := holder[place]; !ok {
			places[slices.Index(places, -1)] = place
		}
	}
	return places, hand
}

func checkOrder(t *testing.T, l []deal.Item, want []int) {
	t.Helper()
	if got := deal.Order(l); !slices.Equal(got, want) {
		t.Errorf("Order(%v) = %v, not %v", l, got, want)
	}
}

func checkDeal(t *testing.T, s deal.Shape, l []deal.Item, want, wantLost []int) {
	t.Helper()
	if places, lost := deal.Deal(s, l); !slices.Equal(places, want) || !slices.Equal(lost, wantLost) {
		t.Errorf("Deal(%v, %v) = %v, %v, not %v, %v", s, l, places, lost, want, wantLost)
	}
}

func checkNothing(t *testing.T, s deal.Shape, many int) {
	t.Helper()
	if places, lost := deal.Deal(s, make([]deal.Item, many)); len(places) != 0 || len(lost) != 0 {
		t.Errorf("Deal(%v) of %d items = %v, %v", s, many, places, lost)
	}
}

// eachFilling goes through all ways to give each place of a shape's list a Deep of -1 to Depth + 1.
func eachFilling(s deal.Shape, tell func(l []deal.Item)) {
	l := of(alike(s.Slots*(s.Depth+1)+s.Stash+1, -1)...)
	for {
		tell(l)
		i := 0
		for i < len(l) && l[i].Deep == s.Depth+1 {
			l[i].Deep = -1
			i++
		}
		if i == len(l) {
			return
		}
		l[i].Deep++
	}
}

// manyDeals goes through deals of all kinds: small shapes whole, others by chance, from full lists to nearly empty ones.
func manyDeals(tell func(s deal.Shape, l []deal.Item)) {
	for _, s := range smallShapes() {
		eachFilling(s, func(l []deal.Item) { tell(s, l) })
	}
	c := chance(9)
	for _, s := range someShapes() {
		for empty := range 10 {
			tell(s, mixedItems(deal.Places(s), s.Depth, empty, &c))
		}
	}
}

// D1.

func TestShapesThatAreRight(t *testing.T) {
	for _, s := range rightShapes() {
		if !deal.Right(s) {
			t.Errorf("%v is not right", s)
		}
		if got, want := deal.Places(s), s.Slots*(s.Depth+1)+s.Stash+1; got != want {
			t.Errorf("Places(%v) = %d, not %d", s, got, want)
		}
	}
}

func TestShapesThatAreNotRight(t *testing.T) {
	for _, s := range wrongShapes() {
		if deal.Right(s) || deal.Places(s) != 0 {
			t.Errorf("%v is right: %v, and has %d places", s, deal.Right(s), deal.Places(s))
		}
	}
}

func TestEachShapeAroundThoseThatAreRight(t *testing.T) {
	for depth := -4; depth <= 14; depth++ {
		for slots := -4; slots <= 12; slots++ {
			for stash := -4; stash <= 70; stash++ {
				s := deal.Shape{Depth: depth, Slots: slots, Stash: stash}
				want := depth >= 0 && depth < 11 && slots > 0 && slots < 9 && stash > 0 && stash < 65
				if deal.Right(s) != want || (deal.Places(s) != 0) != want {
					t.Errorf("%v is right: %v, and has %d places", s, deal.Right(s), deal.Places(s))
				}
			}
		}
	}
}

// The edges of each number alone, one by one, with others that are right.
func TestShapesWrittenOut(t *testing.T) {
	for _, c := range []struct{ depth, slots, stash, want int }{
		{0, 1, 1, 3}, {10, 8, 64, 153}, {2, 4, 5, 18},
		{-1, 4, 5, 0}, {0, 4, 5, 10}, {10, 4, 5, 50}, {11, 4, 5, 0}, {math.MinInt, 4, 5, 0}, {math.MaxInt, 4, 5, 0},
		{2, 0, 5, 0}, {2, 1, 5, 9}, {2, 8, 5, 30}, {2, 9, 5, 0}, {2, -1, 5, 0}, {2, math.MinInt, 5, 0}, {2, math.MaxInt, 5, 0},
		{2, 4, 0, 0}, {2, 4, 1, 14}, {2, 4, 64, 77}, {2, 4, 65, 0}, {2, 4, -1, 0}, {2, 4, math.MinInt, 0}, {2, 4, math.MaxInt, 0},
		{math.MinInt, math.MinInt, math.MinInt, 0}, {math.MaxInt, math.MaxInt, math.MaxInt, 0}, {0, 0, 0, 0},
	} {
		s := deal.Shape{Depth: c.depth, Slots: c.slots, Stash: c.stash}
		if deal.Places(s) != c.want || deal.Right(s) != (c.want > 0) {
			t.Errorf("%v is right: %v, and has %d places, not %d", s, deal.Right(s), deal.Places(s), c.want)
		}
	}
}

func TestOrderWrittenOut(t *testing.T) {
	for _, c := range []struct {
		l    []deal.Item
		want []int
	}{
		{nil, nil},
		{[]deal.Item{}, nil},
		{[]deal.Item{{Id: 0, Deep: 0}}, []int{0}},
		{[]deal.Item{{Id: 7, Deep: -1}}, []int{0}},
		{[]deal.Item{{Id: 1, Deep: 0}, {Id: 2, Deep: 1}, {Id: 3, Deep: 2}}, []int{2, 1, 0}},
		{[]deal.Item{{Id: 3, Deep: 1}, {Id: 2, Deep: 1}, {Id: 1, Deep: 1}}, []int{2, 1, 0}},
		{[]deal.Item{{Id: 5, Deep: 1}, {Id: 5, Deep: 1}, {Id: 5, Deep: 1}}, []int{0, 1, 2}},
		{[]deal.Item{{Id: 9, Deep: 0}, {Id: 0, Deep: 0}, {Id: 9, Deep: 0}, {Id: 0, Deep: 0}}, []int{1, 3, 0, 2}},
		// Empty ones are in their order, whatever their Ids and Deeps are.
		{[]deal.Item{{Id: 9, Deep: -3}, {Id: 8, Deep: -1}, {Id: 1, Deep: -2}, {Id: 0, Deep: math.MinInt}, {Id: 2, Deep: -1}}, []int{0, 1, 2, 3, 4}},
		{[]deal.Item{{Id: 0, Deep: -1}, {Id: 9, Deep: 0}}, []int{1, 0}},
		{[]deal.Item{{Id: 0, Deep: math.MinInt}, {Id: 4, Deep: 0}, {Id: 0, Deep: -1}, {Id: 3, Deep: 0}, {Id: 7, Deep: -9}}, []int{3, 1, 0, 2, 4}},
		// Deeps as they stand, up to the greatest one and down to the least.
		{[]deal.Item{{Id: 1, Deep: 10}, {Id: 2, Deep: 11}, {Id: 3, Deep: 12}, {Id: 4, Deep: 1 << 40}, {Id: 5, Deep: math.MaxInt - 1}, {Id: 6, Deep: math.MaxInt}}, []int{5, 4, 3, 2, 1, 0}},
		{[]deal.Item{{Id: 1, Deep: math.MinInt}, {Id: 2, Deep: math.MaxInt}, {Id: 3, Deep: 0}, {Id: 4, Deep: -1}, {Id: 5, Deep: 1}}, []int{1, 4, 2, 0, 3}},
		// Ids are words: the greatest one is no -1.
		{[]deal.Item{{Id: greatest, Deep: 2}, {Id: 1 << 63, Deep: 2}, {Id: 1<<63 - 1, Deep: 2}, {Id: 1, Deep: 2}, {Id: 0, Deep: 2}}, []int{4, 3, 2, 1, 0}},
		{[]deal.Item{{Id: greatest, Deep: 2}, {Id: 0, Deep: 2}, {Id: greatest, Deep: 2}, {Id: 0, Deep: 2}, {Id: 0, Deep: 3}, {Id: greatest, Deep: 3}}, []int{4, 5, 1, 3, 0, 2}},
	} {
		checkOrder(t, c.l, c.want)
	}
}

// All lists of up to five items of a few kinds.
func TestOrderOfEachShortList(t *testing.T) {
	kinds := []deal.Item{{Id: 0, Deep: -2}, {Id: 5, Deep: -1}, {Id: 0, Deep: 0}, {Id: greatest, Deep: 0}, {Id: 5, Deep: 1}, {Id: 5, Deep: math.MaxInt}}
	lists := [][]deal.Item{nil}
	for len(lists) > 0 && len(lists[0]) <= 5 {
		l := lists[0]
		lists = lists[1:]
		checkOrder(t, l, ordered(l))
		for _, k := range kinds {
			lists = append(lists, append(slices.Clone(l), k))
		}
	}
}

func TestOrderOfMixedLists(t *testing.T) {
	c := chance(1)
	for n := range 200 {
		for empty := range 10 {
			l := mixedItems(n, c.below(12), empty, &c)
			checkOrder(t, l, ordered(l))
		}
	}
}

// Order takes lists of any length: far more items than any shape has places.
func TestOrderOfLongLists(t *testing.T) {
	const n = 100000
	checkOrder(t, make([]deal.Item, n), upTo(0, n))
	checkOrder(t, of(alike(n, -1)...), upTo(0, n))
	down := upTo(0, n)
	slices.Reverse(down)
	checkOrder(t, of(upTo(0, n)...), down)
	checkOrder(t, of(down...), upTo(0, n))
	l := make([]deal.Item, n)
	for i := range l {
		l[i] = deal.Item{Id: uint64(i % 3), Deep: i%2 - 1}
	}
	order := deal.Order(l)
	for i, at := range order[1:] {
		ahead := order[i]
		first, second := min(ahead, at), max(ahead, at)
		if goesAhead(l[first], l[second]) != (first == ahead) {
			t.Fatalf("%d is ahead of %d", ahead, at)
		}
	}
}

// D2.

func TestDealsWrittenOut(t *testing.T) {
	for _, c := range []struct {
		s            deal.Shape
		l            []deal.Item
		places, lost []int
	}{
		// None, one, and as many as one level has.
		{deal.Shape{Depth: 2, Slots: 2, Stash: 1}, of(-1, -1, -1, -1, -1, -1, -1, -1), []int{0, 1, 2, 3, 4, 5, 6, 7}, nil},
		{deal.Shape{Depth: 2, Slots: 2, Stash: 1}, of(-1, -1, -1, 2, -1, -1, -1, -1), []int{0, 1, 2, 4, 3, 5, 6, 7}, nil},
		{deal.Shape{Depth: 2, Slots: 2, Stash: 1}, of(-1, -1, -1, 1, -1, -1, -1, -1), []int{0, 1, 3, 2, 4, 5, 6, 7}, nil},
		{deal.Shape{Depth: 2, Slots: 2, Stash: 1}, of(-1, -1, -1, 0, -1, -1, -1, -1), []int{1, 2, 3, 0, 4, 5, 6, 7}, nil},
		{deal.Shape{Depth: 2, Slots: 2, Stash: 1}, of(2, -1, -1, 2, -1, -1, -1, -1), []int{4, 0, 1, 5, 2, 3, 6, 7}, nil},
		// A level that is full: the next one is above it. One that is half full is left for an item that may not lie there.
		{deal.Shape{Depth: 2, Slots: 2, Stash: 1}, of(2, 2, 2, -1, -1, -1, -1, -1), []int{4, 5, 2, 0, 1, 3, 6, 7}, nil},
		{deal.Shape{Depth: 2, Slots: 2, Stash: 1}, of(2, 1, 1, 1, -1, -1, -1, -1), []int{4, 2, 3, 0, 1, 5, 6, 7}, nil},
		{deal.Shape{Depth: 2, Slots: 2, Stash: 1}, of(2, 1, 0, -1, -1, -1, -1, -1), []int{4, 2, 0, 1, 3, 5, 6, 7}, nil},
		{deal.Shape{Depth: 2, Slots: 2, Stash: 1}, of(2, 2, 2, 1, 0, -1, -1, -1), []int{4, 5, 2, 3, 0, 1, 6, 7}, nil},
		{deal.Shape{Depth: 2, Slots: 2, Stash: 1}, of(2, 2, 2, 0, 0, -1, -1, -1), []int{4, 5, 2, 0, 1, 3, 6, 7}, nil},
		// All levels full, then the stash, then more than both.
		{deal.Shape{Depth: 2, Slots: 2, Stash: 1}, of(2, 2, 2, 2, 2, 2, -1, -1), []int{4, 5, 2, 3, 0, 1, 6, 7}, nil},
		{deal.Shape{Depth: 2, Slots: 2, Stash: 1}, of(2, 2, 2, 2, 2, 2, 2, -1), []int{4, 5, 2, 3, 0, 1, 6, 7}, nil},
		{deal.Shape{Depth: 2, Slots: 2, Stash: 1}, of(2, 2, 2, 2, 2, 2, 2, 2), []int{4, 5, 2, 3, 0, 1, 6, 7}, []int{7}},
		{deal.Shape{Depth: 2, Slots: 2, Stash: 1}, of(0, 2, 2, 2, 2, 2, 2, 2), []int{7, 4, 5, 2, 3, 0, 1, 6}, []int{0}},
		// Deeper levels stay empty, though items are lost: these have the places that are left there.
		{deal.Shape{Depth: 1, Slots: 1, Stash: 1}, of(0, 0, 0, 0), []int{0, 2, 1, 3}, []int{2, 3}},
		{deal.Shape{Depth: 1, Slots: 1, Stash: 1}, of(0, -1, 0, 0), []int{0, 1, 2, 3}, []int{3}},
		{deal.Shape{Depth: 1, Slots: 1, Stash: 2}, of(0, 0, -1, 0, 0), []int{0, 2, 1, 3, 4}, []int{4}},
		// Lost ones are told as they were dealt, empty and lost ones lie as they stand.
		{deal.Shape{Depth: 1, Slots: 1, Stash: 1}, []deal.Item{{Id: 9, Deep: 0}, {Id: 8, Deep: 0}, {Id: 7, Deep: 0}, {Id: 6, Deep: 0}}, []int{1, 3, 2, 0}, []int{1, 0}},
		{deal.Shape{Depth: 2, Slots: 1, Stash: 1}, []deal.Item{{Id: 9, Deep: 0}, {Id: 8, Deep: -1}, {Id: 7, Deep: 0}, {Id: 8, Deep: 0}, {Id: 1, Deep: 0}}, []int{1, 2, 3, 4, 0}, []int{3, 0}},
		{deal.Shape{Depth: 0, Slots: 1, Stash: 1}, []deal.Item{{Id: 3, Deep: 0}, {Id: 2, Deep: 0}, {Id: 1, Deep: 0}}, []int{2, 1, 0}, []int{0}},
		// Deeps beyond Depth: the level is Depth, but the greater one is dealt first.
		{deal.Shape{Depth: 1, Slots: 1, Stash: 1}, of(1, 2, 3, math.MaxInt), []int{3, 2, 0, 1}, []int{0}},
		{deal.Shape{Depth: 0, Slots: 1, Stash: 1}, of(0, math.MaxInt, math.MinInt), []int{1, 0, 2}, nil},
		{deal.Shape{Depth: 10, Slots: 1, Stash: 1}, of(10, 11, 9, -1, 0, math.MaxInt, math.MinInt, -1, -1, -1, -1, -1, -1), []int{8, 9, 7, 1, 0, 10, 2, 3, 4, 5, 6, 11, 12}, nil},
		// Ids at the edges, alike and unlike.
		{deal.Shape{Depth: 1, Slots: 1, Stash: 1}, []deal.Item{{Id: greatest, Deep: 1}, {Id: 0, Deep: 1}, {Id: greatest, Deep: 1}, {Id: 0, Deep: 1}}, []int{2, 1, 3, 0}, []int{2}},
		{deal.Shape{Depth: 1, Slots: 1, Stash: 1}, make([]deal.Item, 4), []int{0, 2, 1, 3}, []int{2, 3}},
	} {
		checkDeal(t, c.s, c.l, c.places, c.lost)
	}
}

func TestEachFillingOfSmallShapes(t *testing.T) {
	for _, s := range smallShapes() {
		eachFilling(s, func(l []deal.Item) {
			places, lost := dealt(s, l)
			checkDeal(t, s, l, places, lost)
		})
	}
}

func TestMixedDeals(t *testing.T) {
	c := chance(2)
	for _, s := range rightShapes() {
		l := mixedItems(deal.Places(s), s.Depth, c.below(10), &c)
		places, lost := dealt(s, l)
		checkDeal(t, s, l, places, lost)
	}
}

// Of items that are all alike in Deep, as many as that or one less, one more than there are of each kind of place.
func TestLevelsAndStashFilledUpToTheLastPlace(t *testing.T) {
	for _, s := range someShapes() {
		all := deal.Places(s)
		for deep := range s.Depth + 1 {
			room := s.Slots * (deep + 1)
			for _, many := range []int{1, s.Slots - 1, s.Slots, s.Slots + 1, room - 1, room, room + 1, room + s.Stash - 1, room + s.Stash, room + s.Stash + 1, all} {
				many = min(many, all)
				l := of(append(alike(many, deep), alike(all-many, -1)...)...)
				places, lost := dealt(s, l)
				checkDeal(t, s, l, places, lost)
				if len(lost) != max(0, many-room-s.Stash) {
					t.Errorf("%v: of %d items down to %d %d are lost", s, many, deep, len(lost))
				}
			}
		}
	}
}

// A list of items that are alike lies level by level, from the deepest one up, and then in the stash; the last one is lost.
func TestOneShapeWhole(t *testing.T) {
	s := deal.Shape{Depth: 10, Slots: 8, Stash: 64}
	var want []int
	for level := 10; level >= 0; level-- {
		want = append(want, upTo(level*8, 8)...)
	}
	want = append(want, upTo(88, 65)...)
	for _, deep := range []int{10, 11, math.MaxInt} {
		checkDeal(t, s, of(alike(153, deep)...), want, []int{152})
	}
	for _, deep := range []int{-1, -2, math.MinInt} {
		checkDeal(t, s, of(alike(153, deep)...), upTo(0, 153), nil)
	}
	// The root's 8 and the stash's 64; all others are lost, and lie where there is room, in order.
	want = slices.Concat(upTo(0, 8), upTo(88, 64), upTo(8, 80), upTo(152, 1))
	checkDeal(t, s, of(alike(153, 0)...), want, upTo(72, 81))
}

func TestDealOfMoreOrFewerItemsThanPlaces(t *testing.T) {
	for _, s := range someShapes() {
		n := deal.Places(s)
		for _, many := range []int{0, 1, 2, n - s.Stash - 1, n - 2, n - 1, n + 1, n + 2, 2 * n, 1000} {
			if many != n {
				checkNothing(t, s, many)
			}
		}
		if places, lost := deal.Deal(s, nil); len(places) != 0 || len(lost) != 0 {
			t.Errorf("Deal(%v, nil) = %v, %v", s, places, lost)
		}
		if places, _ := deal.Deal(s, make([]deal.Item, n)); len(places) != n {
			t.Errorf("Deal(%v) of %d items tells %d places", s, n, len(places))
		}
	}
}

// Lists of none, of any number, and of as many as there would be places if such a shape were right.
func TestDealOfShapesThatAreNotRight(t *testing.T) {
	for _, s := range wrongShapes() {
		for _, many := range []int{0, 1, 3, 153} {
			checkNothing(t, s, many)
		}
		if would := s.Slots*(s.Depth+1) + s.Stash + 1; would > 0 && would < 1000 {
			checkNothing(t, s, would)
		}
	}
	checkNothing(t, deal.Shape{Depth: -1, Slots: 1, Stash: 1}, 2)
	checkNothing(t, deal.Shape{Depth: 11, Slots: 1, Stash: 1}, 14)
	checkNothing(t, deal.Shape{Depth: 1, Slots: 0, Stash: 1}, 2)
	checkNothing(t, deal.Shape{Depth: 1, Slots: 9, Stash: 1}, 20)
	checkNothing(t, deal.Shape{Depth: 1, Slots: 1, Stash: 0}, 3)
	checkNothing(t, deal.Shape{Depth: 1, Slots: 1, Stash: 65}, 68)
}

// Empty and lost ones alone, in the order of the list, have the places that the others leave, in order.
func TestPlacesThatAreLeft(t *testing.T) {
	manyDeals(func(s deal.Shape, l []deal.Item) {
		places, lost := deal.Deal(s, l)
		var rest []int
		for i, item := range l {
			if item.Deep < 0 || slices.Contains(lost, i) {
				rest = append(rest, places[i])
			}
		}
		if !slices.IsSorted(rest) {
			t.Errorf("Deal(%v, %v): %v are left", s, l, rest)
		}
	})
}

func TestWhichAreLost(t *testing.T) {
	manyDeals(func(s deal.Shape, l []deal.Item) {
		_, lost := deal.Deal(s, l)
		dealt := slices.DeleteFunc(ordered(l), func(i int) bool { return l[i].Deep < 0 })
		if last := dealt[len(dealt)-len(lost):]; !slices.Equal(lost, last) {
			t.Errorf("Deal(%v, %v): %v are lost, not %v", s, l, lost, last)
		}
	})
}

// D3.

func TestEachPlaceIsDealtOnce(t *testing.T) {
	manyDeals(func(s deal.Shape, l []deal.Item) {
		places, _ := deal.Deal(s, l)
		slices.Sort(places)
		if !slices.Equal(places, upTo(0, len(l))) {
			t.Errorf("Deal(%v, %v): the places are %v", s, l, places)
		}
	})
}

// lying counts those that are not empty and not lost: how many lie in the stash, and is each one where it may lie?
func lying(s deal.Shape, l []deal.Item, places, lost []int) (stashed int, right bool) {
	stash := s.Slots * (s.Depth + 1)
	right = true
	for i, item := range l {
		if item.Deep < 0 || slices.Contains(lost, i) {
			continue
		}
		if places[i] >= stash {
			stashed++
			right = right && places[i] < stash+s.Stash
		} else {
			right = right && places[i]/s.Slots <= item.Deep
		}
	}
	return stashed, right
}

func TestNoItemLiesDeeperThanItMay(t *testing.T) {
	manyDeals(func(s deal.Shape, l []deal.Item) {
		places, lost := deal.Deal(s, l)
		if _, right := lying(s, l, places, lost); !right {
			t.Errorf("Deal(%v, %v) = %v, %v", s, l, places, lost)
		}
	})
}

// tooMany is the greatest number by which those that may lie on the levels 0 to d alone are more than there is room for, of all d.
func tooMany(s deal.Shape, l []deal.Item) int {
	most := 0
	for d := range s.Depth + 1 {
		many := 0
		for _, item := range l {
			if item.Deep >= 0 && min(item.Deep, s.Depth) <= d {
				many++
			}
		}
		most = max(most, many-s.Slots*(d+1))
	}
	return most
}

func TestAsFewLieInTheStashAsCanBe(t *testing.T) {
	manyDeals(func(s deal.Shape, l []deal.Item) {
		places, lost := deal.Deal(s, l)
		stashed, _ := lying(s, l, places, lost)
		if want := tooMany(s, l); stashed+len(lost) != want {
			t.Errorf("Deal(%v, %v) = %v, %v: %d in the stash, %d lost, not %d in all", s, l, places, lost, stashed, len(lost), want)
		}
		if len(lost) > 0 && stashed != s.Stash {
			t.Errorf("Deal(%v, %v) = %v, %v: some are lost, and there is room in the stash", s, l, places, lost)
		}
	})
}

// mostOnLevels is how many items can lie on the levels at once, whoever deals: all who may are tried, with those that stand in their way moved on.
func mostOnLevels(s deal.Shape, l []deal.Item) int {
	holder := make(map[int]int)
	var seat func(i int, seen map[int]int) bool
	seat = func(i int, seen map[int]int) bool {
		for place := range s.Slots * (min(l[i].Deep, s.Depth) + 1) {
			if seen[place] > 0 {
				continue
			}
			seen[place] = 1
			if j, ok := holder[place]; !ok || seat(j, seen) {
				holder[place] = i
				return true
			}
		}
		return false
	}
	many := 0
	for i, item := range l {
		if item.Deep >= 0 && seat(i, map[int]int{}) {
			many++
		}
	}
	return many
}

func TestNoOtherDealHasFewerInTheStash(t *testing.T) {
	check := func(s deal.Shape, l []deal.Item) {
		full := 0
		for _, item := range l {
			if item.Deep >= 0 {
				full++
			}
		}
		places, lost := deal.Deal(s, l)
		stashed, _ := lying(s, l, places, lost)
		if want := full - mostOnLevels(s, l); stashed+len(lost) != want {
			t.Errorf("Deal(%v, %v) = %v, %v: %d in the stash, %d lost, not %d in all", s, l, places, lost, stashed, len(lost), want)
		}
	}
	for _, s := range smallShapes() {
		if deal.Places(s) <= 6 {
			eachFilling(s, func(l []deal.Item) { check(s, l) })
		}
	}
	c := chance(3)
	for _, s := range someShapes() {
		check(s, mixedItems(deal.Places(s), s.Depth, c.below(10), &c))
	}
}

// If some are in the stash, there is a level down to which all places are taken by those that may not lie below it.
func TestTheStashIsForThoseThatFindNoRoomAbove(t *testing.T) {
	manyDeals(func(s deal.Shape, l []deal.Item) {
		places, lost := deal.Deal(s, l)
		stashed, _ := lying(s, l, places, lost)
		if stashed == 0 {
			return
		}
		for d := range s.Depth + 1 {
			there := 0
			for i, item := range l {
				if item.Deep >= 0 && min(item.Deep, s.Depth) <= d && places[i] < s.Slots*(d+1) && !slices.Contains(lost, i) {
					there++
				}
			}
			if there == s.Slots*(d+1) {
				return
			}
		}
		t.Errorf("Deal(%v, %v) = %v, %v: %d in the stash, and there was room", s, l, places, lost, stashed)
	})
}

// DOC.md's P3 and P4.

func TestItemsStayAsTheyAre(t *testing.T) {
	c := chance(4)
	for _, s := range someShapes() {
		n := deal.Places(s)
		whole := mixedItems(n+5, s.Depth, 3, &c)
		was := slices.Clone(whole)
		deal.Order(whole[:n])
		deal.Deal(s, whole[:n])
		deal.Order(whole[2:n])
		deal.Deal(s, whole[2:n])
		if !slices.Equal(whole, was) {
			t.Errorf("%v: the items are %v, and were %v", s, whole, was)
		}
	}
}

// What lies behind a list's length is not read: it may be anything.
func TestItemsBehindTheLengthAreNotRead(t *testing.T) {
	c := chance(5)
	for _, s := range someShapes() {
		n := deal.Places(s)
		whole := mixedItems(2*n, s.Depth, 3, &c)
		l := slices.Clone(whole[:n])
		places, lost := deal.Deal(s, slices.Clip(l))
		checkDeal(t, s, whole[:n], places, lost)
		checkOrder(t, whole[:n], deal.Order(slices.Clip(l)))
		if places, lost := deal.Deal(s, whole[:n-1]); len(places) != 0 || len(lost) != 0 {
			t.Errorf("Deal(%v) of %d items = %v, %v", s, n-1, places, lost)
		}
	}
}

func TestAnswersAreNewEachTime(t *testing.T) {
	for _, s := range someShapes() {
		l := make([]deal.Item, deal.Places(s))
		order, again := deal.Order(l), deal.Order(l)
		places, lost := deal.Deal(s, l)
		places2, lost2 := deal.Deal(s, l)
		wantPlaces, wantLost := dealt(s, l)
		for _, list := range [][]int{order, places} {
			for i := range list {
				list[i] = 99
			}
			for i := range cap(list) - len(list) {
				list[:cap(list)][len(list)+i] = 98
			}
		}
		if !slices.Equal(lost, wantLost) || !slices.Equal(lost2, wantLost) {
			t.Errorf("Deal(%v): what is lost shares memory with another list", s)
		}
		for i := range lost[:cap(lost)] {
			lost[:cap(lost)][i] = 97
		}
		if !slices.Equal(again, upTo(0, len(l))) || !slices.Equal(places2, wantPlaces) || !slices.Equal(lost2, wantLost) {
			t.Errorf("%v: an answer hangs on an earlier one", s)
		}
		checkOrder(t, l, upTo(0, len(l)))
		checkDeal(t, s, l, wantPlaces, wantLost)
	}
}

// Nothing is kept from one call to the next: not of a shape, not of items, right or not.
func TestADealHangsOnWhatIsHandedInAlone(t *testing.T) {
	c := chance(6)
	first := deal.Shape{Depth: 2, Slots: 2, Stash: 2}
	l := mixedItems(deal.Places(first), 2, 2, &c)
	places, lost := deal.Deal(first, l)
	for _, s := range append(someShapes(), wrongShapes()[:50]...) {
		deal.Deal(s, mixedItems(deal.Places(s), 5, 1, &c))
		deal.Order(mixedItems(c.below(30), 5, 1, &c))
		checkDeal(t, first, l, places, lost)
	}
}

func TestChapterExample(t *testing.T) {
	s := deal.Shape{Depth: 1, Slots: 1, Stash: 1}
	checkDeal(t, s, []deal.Item{{Id: 1, Deep: 1}, {Id: 2, Deep: 0}, {Id: 3, Deep: 1}, {Deep: -1}}, []int{1, 2, 0, 3}, nil)
}

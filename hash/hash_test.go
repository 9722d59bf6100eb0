package hash_test

import (
	"math"
	"slices"
	"sync"
	"testing"

	"shellgame/hash"
	"shellgame/tape"
)

// The chapter's examples.
func TestExamples(t *testing.T) {
	if n := hash.At(hash.Of(nil), 0, 0, 8); n != 0 {
		t.Error("At(Of(nothing), 0, 0, 8)", n)
	}
	if n := hash.Mix(0); n != 0 {
		t.Errorf("Mix(0): %#x", n)
	}
	if n := hash.Mix(1); n != 0x9E3779B9E17D05AC {
		t.Errorf("Mix(1): %#x", n)
	}
	if hash.Words != 4 {
		t.Error("Words", hash.Words)
	}
}

// H1: the first four words, 0 for those that there are not.
func TestOf(t *testing.T) {
	for _, c := range []struct {
		words []uint64
		want  hash.Hash
	}{
		{nil, hash.Hash{}},
		{[]uint64{}, hash.Hash{}},
		{[]uint64{0}, hash.Hash{}},
		{[]uint64{7}, hash.Hash{A: 7}},
		{[]uint64{7, 8}, hash.Hash{A: 7, B: 8}},
		{[]uint64{7, 8, 9}, hash.Hash{A: 7, B: 8, C: 9}},
		{[]uint64{7, 8, 9, 10}, hash.Hash{A: 7, B: 8, C: 9, D: 10}},
		{[]uint64{7, 8, 9, 10, 11}, hash.Hash{A: 7, B: 8, C: 9, D: 10}},
		{[]uint64{7, 8, 9, 10, 11, 12, 13, 14, 15}, hash.Hash{A: 7, B: 8, C: 9, D: 10}},
		{[]uint64{0, 0, 0, 4, 5}, hash.Hash{D: 4}},
		{[]uint64{0, 0, 0, 0, 5}, hash.Hash{}},
		{[]uint64{4, 3, 2, 1}, hash.Hash{A: 4, B: 3, C: 2, D: 1}},
		{[]uint64{6, 6, 6, 6}, hash.Hash{A: 6, B: 6, C: 6, D: 6}},
		{[]uint64{greatest}, hash.Hash{A: greatest}},
		{[]uint64{greatest, greatest - 1, 1 << 63, 1<<63 - 1}, hash.Hash{A: greatest, B: greatest - 1, C: 1 << 63, D: 1<<63 - 1}},
		{[]uint64{greatest, greatest, greatest, greatest, greatest}, hash.Hash{A: greatest, B: greatest, C: greatest, D: greatest}},
	} {
		if h := hash.Of(c.words); h != c.want {
			t.Error(c.words, h, c.want)
		}
	}
}

// H1, of long lists, and of words that a tape gives, behind its end too.
func TestOfManyWords(t *testing.T) {
	long := make([]uint64, 1<<16)
	for i := range long {
		long[i] = uint64(i + 3)
	}
	if h := hash.Of(long); h != (hash.Hash{A: 3, B: 4, C: 5, D: 6}) {
		t.Error(h)
	}
	taken := tape.New([]uint64{31, 32, 33}).Take(hash.Words)
	if h := hash.Of(taken); h != (hash.Hash{A: 31, B: 32, C: 33}) {
		t.Error(h)
	}
}

// P3: words behind a list's length are not read, none is written into, none is kept.
func TestOfLeavesWordsAsTheyAre(t *testing.T) {
	all := []uint64{1, 2, 3, 4, 5, 6}
	for many, want := range []hash.Hash{{}, {A: 1}, {A: 1, B: 2}, {A: 1, B: 2, C: 3}, {A: 1, B: 2, C: 3, D: 4}, {A: 1, B: 2, C: 3, D: 4}} {
		h := hash.Of(all[:many])
		if h != want {
			t.Error(many, h, want)
		}
		if !slices.Equal(all, []uint64{1, 2, 3, 4, 5, 6}) {
			t.Fatal(many, "written into", all)
		}
	}
	words := []uint64{1, 2, 3, 4}
	h := hash.Of(words)
	clear(words)
	if h != (hash.Hash{A: 1, B: 2, C: 3, D: 4}) {
		t.Error("kept", h)
	}
}

// H1, written out, reckoned by another program.
func TestMix(t *testing.T) {
	for _, c := range []struct{ n, want uint64 }{
		{0, 0},
		{1, 0x9E3779B9E17D05AC},
		{2, 0x3C6EF372C2FA0B58},
		{3, 0xDAA66D2CA7791913},
		{9, 0x8FF34785F66D1B38},
		{105, 0xE4C0ED15D14C0988},
		{1 << 28, 0x97F4A7C1C7F4A7C1},
		{1 << 29, 0xCE20C93CD16AB529},
		{1<<29 + 1, 0x2FE94F828FE94F82},
		{1 << 31, 0x388324F045AAD4A4},
		{1 << 32, 0x710649E08B55A948},
		{1<<32 - 1, 0x8D8EAE498822B111},
		{1 << 58, 0x83E94F8223E94F82},
		{1 << 61, 0x1F4A7C151F4A7C15},
		{1 << 63, 0x7D29F0547D29F054},
		{1<<63 - 1, 0x82D60FAC82D60FAC},
		{0x0123456789ABCDEF, 0x7E44D23E5E20F171},
		{0x9E3779B97F4A7C15, 0xD8A77E5280806164},
		{greatest - 1, 0xA3E39911DCA9E504},
		{greatest, 0x05AC1F5805AC1F58},
	} {
		if n := hash.Mix(c.n); n != c.want {
			t.Errorf("Mix(%#x): %#x, want %#x", c.n, n, c.want)
		}
	}
}

// H1, against the twin: each power of two, its neighbours, and words without a pattern.
func TestMixAgainstTwin(t *testing.T) {
	for _, n := range words(3000) {
		if got, want := hash.Mix(n), mixed(number(n)).Uint64(); got != want {
			t.Fatalf("Mix(%#x): %#x, want %#x", n, got, want)
		}
	}
}

// H3: each word comes from one word, and that can be told.
func TestMixIsOneToOne(t *testing.T) {
	for _, n := range words(3000) {
		if back := unmixed(hash.Mix(n)); back != n {
			t.Fatalf("Mix(%#x) is told back as %#x", n, back)
		}
		if there := hash.Mix(unmixed(n)); there != n {
			t.Fatalf("nothing is mixed to %#x, but %#x", n, there)
		}
	}
}

// H3: unlike words stay unlike: near ones, and such as differ in their upper bits only.
func TestMixOfUnlikeWords(t *testing.T) {
	for _, shift := range []int{0, 8, 29, 32, 35, 48} {
		const many = 1 << 16
		met := make(map[uint64]uint64, many)
		for n := range uint64(many) {
			from := n << shift
			stirred := hash.Mix(from)
			if other, there := met[stirred]; there {
				t.Fatalf("Mix(%#x) is Mix(%#x)", from, other)
			}
			met[stirred] = from
		}
	}
	for _, n := range words(300) {
		for i := range 64 {
			if hash.Mix(n) == hash.Mix(n^1<<i) {
				t.Fatalf("Mix(%#x) does not hang on bit %d", n, i)
			}
		}
	}
}

// row is a hash, a key, and its places in both tables, of 1024 places each.
type row struct {
	h             hash.Hash
	key           uint64
	first, second int
}

// rows are reckoned by another program: of products and sums that go round, too.
func rows() []row {
	none := hash.Hash{}
	small := hash.Hash{A: 5, B: 6, C: 7, D: 8}
	ones := hash.Hash{A: 1, D: 1}
	great := hash.Hash{A: greatest, B: greatest, C: greatest, D: greatest}
	half := hash.Hash{A: 1 << 63, B: 1 << 63, C: 1 << 62, D: greatest - 1}
	mess := hash.Hash{A: 0xFEDCBA9876543210, B: 0x1111111111111111, C: 0x0F0F0F0F0F0F0F0F, D: 0x8000000000000001}
	return []row{
		{none, 0, 0, 0}, {none, 1, 428, 428}, {none, 9, 824, 824}, {none, 1<<56 + 107, 175, 175},
		{none, greatest - 1, 260, 260}, {none, greatest, 856, 856}, {none, 1 << 63, 84, 84},
		{small, 0, 550, 355}, {small, 1, 52, 585}, {small, 9, 392, 293}, {small, 1<<56 + 107, 977, 929},
		{small, greatest - 1, 13, 566}, {small, greatest, 617, 462}, {small, 1 << 63, 722, 695},
		{ones, 0, 0, 428}, {ones, 1, 275, 856}, {ones, 9, 167, 492}, {ones, 1<<56 + 107, 879, 766},
		{ones, greatest - 1, 926, 856}, {ones, greatest, 736, 0}, {ones, 1 << 63, 84, 536},
		{great, 0, 856, 856}, {great, 1, 260, 260}, {great, 9, 608, 608}, {great, 1<<56 + 107, 775, 775},
		{great, greatest - 1, 428, 428}, {great, greatest, 0, 0}, {great, 1 << 63, 940, 940},
		{half, 0, 84, 260}, {half, 1, 536, 940}, {half, 9, 868, 245}, {half, 1<<56 + 107, 123, 468},
		{half, greatest - 1, 368, 187}, {half, greatest, 940, 820}, {half, 1 << 63, 0, 368},
		{mess, 0, 655, 536}, {mess, 1, 43, 731}, {mess, 9, 312, 15}, {mess, 1<<56 + 107, 955, 116},
		{mess, greatest - 1, 43, 103}, {mess, greatest, 48, 583}, {mess, 1 << 63, 731, 428},
	}
}

// H2: a size that is less takes the lower bits of the same word.
func TestAt(t *testing.T) {
	for _, r := range rows() {
		for _, size := range sizes() {
			if n := hash.At(r.h, 0, r.key, size); n != r.first%size {
				t.Error(r, "table 0", size, n)
			}
			if n := hash.At(r.h, 1, r.key, size); n != r.second%size {
				t.Error(r, "table 1", size, n)
			}
		}
	}
}

// H2 and H3, against the twin; a place is one of the table's.
func TestAtAgainstTwin(t *testing.T) {
	for _, h := range hashes() {
		for _, key := range keys() {
			for table := range 2 {
				for _, size := range sizes() {
					n := hash.At(h, table, key, size)
					if want := placeOf(h, table, key, size); n != want {
						t.Fatal(h, table, key, size, n, want)
					}
					if n < 0 || n >= size {
						t.Fatal(h, table, key, size, "no place", n)
					}
				}
			}
		}
	}
}

// H2: of a table other than 0 and 1 there is no place: 0 is told.
func TestAtOfWrongTables(t *testing.T) {
	for _, table := range wrongTables() {
		for _, r := range rows() {
			for _, size := range sizes() {
				if n := hash.At(r.h, table, r.key, size); n != 0 {
					t.Fatal(r, table, size, n)
				}
			}
		}
	}
}

// H2: so it is of other sizes, whatever the table.
func TestAtOfWrongSizes(t *testing.T) {
	for _, size := range wrongSizes() {
		for _, r := range rows() {
			for _, table := range []int{0, 1, 2, -1, math.MinInt, math.MaxInt} {
				if n := hash.At(r.h, table, r.key, size); n != 0 {
					t.Fatal(r, table, size, n)
				}
			}
		}
	}
}

// H2: a table's place hangs on its own words, on both of them, and not on the other one's.
func TestAtHangsOnItsOwnWords(t *testing.T) {
	c := chance(5)
	moved := [4]int{}
	const tries = 400
	for range tries {
		h := hash.Hash{A: c.word(), B: c.word(), C: c.word(), D: c.word()}
		key, fresh := c.word(), c.word()
		first, second := hash.At(h, 0, key, 1024), hash.At(h, 1, key, 1024)
		for i, other := range []hash.Hash{{A: fresh, B: h.B, C: h.C, D: h.D}, {A: h.A, B: fresh, C: h.C, D: h.D}, {A: h.A, B: h.B, C: fresh, D: h.D}, {A: h.A, B: h.B, C: h.C, D: fresh}} {
			isFirst, isSecond := hash.At(other, 0, key, 1024) == first, hash.At(other, 1, key, 1024) == second
			if i < 2 && !isSecond || i >= 2 && !isFirst {
				t.Fatal(h, key, "the other table's word", i, "counts")
			}
			if !isFirst || !isSecond {
				moved[i]++
			}
		}
	}
	for i, many := range moved {
		if many < tries*9/10 {
			t.Error("word", i, "moved only", many, "of", tries)
		}
	}
}

// H2: both tables are reckoned alike, of words that are alike.
func TestAtOfBothTables(t *testing.T) {
	for _, h := range hashes() {
		turned := hash.Hash{A: h.C, B: h.D, C: h.A, D: h.B}
		for _, key := range keys() {
			for _, size := range sizes() {
				if a, b := hash.At(h, 0, key, size), hash.At(turned, 1, key, size); a != b {
					t.Fatal(h, key, size, a, b)
				}
				if a, b := hash.At(h, 1, key, size), hash.At(turned, 0, key, size); a != b {
					t.Fatal(h, key, size, a, b)
				}
			}
		}
	}
}

// H3: there is no place that no key has.
func TestAtReachesEachPlace(t *testing.T) {
	h := hash.Of([]uint64{0xFEDCBA9876543210, 3, 0x0F0F0F0F0F0F0F0F, 4})
	for table := range 2 {
		for _, size := range sizes() {
			met := make([]int, size)
			for key := range uint64(20 * size) {
				met[hash.At(h, table, key, size)]++
			}
			if at := slices.Index(met, 0); at >= 0 {
				t.Error(table, size, "no key lies at", at)
			}
		}
	}
}

// P1, P4: whatever is handed in, an answer comes, and it is the same one each time, whoever else asks.
func TestAnswersStay(t *testing.T) {
	var all sync.WaitGroup
	for range 4 {
		all.Go(func() {
			for _, r := range rows() {
				for _, table := range append(wrongTables(), 0, 1) {
					for _, size := range []int{math.MinInt, -1024, -1, 0, 1, 3, 1024, 2048, math.MaxInt} {
						n := hash.At(r.h, table, r.key, size)
						if n != hash.At(r.h, table, r.key, size) {
							t.Error(r, table, size)
						}
					}
				}
				if n := hash.At(r.h, 1, r.key, 1024); n != r.second || hash.Mix(1) != 0x9E3779B9E17D05AC {
					t.Error(r, n)
				}
			}
		})
	}
	all.Wait()
}

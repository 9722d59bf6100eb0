package pack_test

import (
	"fmt"
	"math"
	"strings"
	"testing"

	"shellgame/api"
	"shellgame/pack"
)

// top is how many times the highest byte counts.
const top = 1 << 56

// wordOf says K1's word by sums and products alone: the first byte counts once, each next one 256 times as much.
func wordOf(s string) uint64 {
	n := uint64(len(s)) * top
	weight := uint64(1)
	for i := 0; i < len(s); i++ {
		n += uint64(s[i]) * weight
		weight *= 256
	}
	return n
}

// textOf says K1's other way by quotients and remainders: the text, if n is a word of one.
func textOf(n uint64) (string, bool) {
	many, rest := n/top, n%top
	s := ""
	for range min(many, 7) {
		s += string([]byte{byte(rest % 256)})
		rest /= 256
	}
	return s, many < 8 && rest == 0
}

// texts are texts of each length up to seven: of one byte again and again, and with another one at each place.
func texts() []string {
	edges := []byte{0, 1, 7, '\n', ' ', 'a', 0x7f, 0x80, 0xc3, 0xfe, 0xff}
	l := []string{"", "abcdefg", "gfedcba", "k v", "\u00e9", "\u20ac\u20ac", "\U0001f600abc", "\x01\x02\x03\x04\x05\x06\x07"}
	for many := 1; many <= 7; many++ {
		for _, most := range edges {
			l = append(l, strings.Repeat(string([]byte{most}), many))
			for _, one := range edges {
				for at := range many {
					b := []byte(strings.Repeat(string([]byte{most}), many))
					b[at] = one
					l = append(l, string(b))
				}
			}
		}
	}
	return l
}

func checkWord(t *testing.T, s string, want uint64) {
	t.Helper()
	if n, e := pack.Word(s); n != want || e != api.OK {
		t.Errorf("Word(%q) = %#x, %v, want %#x", s, n, e, want)
	}
}

func checkLong(t *testing.T, s string) {
	t.Helper()
	if n, e := pack.Word(s); n != 0 || e != api.ErrLong {
		t.Errorf("Word of %d bytes = %#x, %v", len(s), n, e)
	}
}

func checkText(t *testing.T, n uint64, want string) {
	t.Helper()
	if s, e := pack.Text(n); s != want || e != api.OK {
		t.Errorf("Text(%#x) = %q, %v, want %q", n, s, e, want)
	}
	if !pack.Right(n) {
		t.Errorf("Right(%#x) = false", n)
	}
}

func checkWrong(t *testing.T, n uint64) {
	t.Helper()
	if s, e := pack.Text(n); s != "" || e != api.ErrForm {
		t.Errorf("Text(%#x) = %q, %v", n, s, e)
	}
	if pack.Right(n) {
		t.Errorf("Right(%#x) = true", n)
	}
}

func checkBoth(t *testing.T, s string, n uint64) {
	t.Helper()
	checkWord(t, s, n)
	checkText(t, n, s)
}

func checkByRule(t *testing.T, n uint64) {
	t.Helper()
	if s, right := textOf(n); right {
		checkText(t, n, s)
	} else {
		checkWrong(t, n)
	}
}

// K1.

func TestMostIsSeven(t *testing.T) {
	if pack.Most != 7 {
		t.Errorf("Most = %d", pack.Most)
	}
}

func TestWordsWrittenOut(t *testing.T) {
	for _, c := range []struct {
		s string
		n uint64
	}{
		{"", 0},
		{"a", 0x01_00000000000061},
		{"ab", 0x02_00000000006261},
		{"ba", 0x02_00000000006162},
		{"abc", 0x03_00000000636261},
		{"abcd", 0x04_00000064636261},
		{"abcde", 0x05_00006564636261},
		{"abcdef", 0x06_00666564636261},
		{"abcdefg", 0x07_67666564636261},
		{"\x00", 0x01_00000000000000},
		{"\x00\x00", 0x02_00000000000000},
		{"\x00\x00\x00\x00\x00\x00\x00", 0x07_00000000000000},
		{"\x00a", 0x02_00000000006100},
		{"a\x00", 0x02_00000000000061},
		{"\x00bcdef\x00", 0x07_00666564636200},
		{"\xff", 0x01_000000000000ff},
		{"\xffbcdef\xff", 0x07_ff6665646362ff},
		{"\x80bcdef\x81", 0x07_81666564636280},
		{"\xff\xff\xff\xff\xff\xff\xff", 0x07_ffffffffffffff},
		{"\n ", 0x02_0000000000200a},
		{"\u00e9", 0x02_0000000000a9c3},
	} {
		checkBoth(t, c.s, c.n)
	}
}

func TestWordOfEachText(t *testing.T) {
	for _, s := range texts() {
		checkBoth(t, s, wordOf(s))
	}
}

func TestEachByteAtEachPlace(t *testing.T) {
	for many := 1; many <= 7; many++ {
		for at := range many {
			for b := range 256 {
				s := []byte("tuvwxyz"[:many])
				s[at] = byte(b)
				checkBoth(t, string(s), wordOf(string(s)))
			}
		}
	}
}

func TestTextsThatAreTooLong(t *testing.T) {
	for _, b := range []string{"\x00", "a", "\xff"} {
		checkWord(t, strings.Repeat(b, 7), wordOf(strings.Repeat(b, 7)))
		// 256 and 263 bytes: a length that is cut to a byte would be short.
		for _, many := range []int{8, 9, 15, 16, 64, 255, 256, 257, 263, 264, 65536, 65543, 1 << 20} {
			checkLong(t, strings.Repeat(b, many))
		}
	}
	// Bytes count, not letters: four of two bytes each.
	checkLong(t, "\u00e9\u00e9\u00e9\u00e9")
	checkLong(t, "abcdefg\x00")
	checkLong(t, "\x00\x00\x00\x00\x00\x00\x00a")
}

func TestWordsByTheirHighestByte(t *testing.T) {
	for many := range uint64(256) {
		if many < 8 {
			checkText(t, many*top, strings.Repeat("\x00", int(many)))
		} else {
			checkWrong(t, many*top)
		}
		full := many*top + top - 1
		if many == 7 {
			checkText(t, full, strings.Repeat("\xff", 7))
		} else {
			checkWrong(t, full)
		}
	}
}

func TestALetterAtEachPlaceOfAWord(t *testing.T) {
	for many := range uint64(256) {
		for at := range 7 {
			for _, b := range []uint64{1, 7, 'a', 0x80, 0xff} {
				n := many*top + b<<(8*at)
				if many < 8 && at < int(many) {
					s := make([]byte, many)
					s[at] = byte(b)
					checkText(t, n, string(s))
				} else {
					checkWrong(t, n)
				}
			}
		}
	}
}

func TestWhatLiesAboveATextIsNought(t *testing.T) {
	for _, s := range texts() {
		for bit := 8 * len(s); bit < 56; bit++ {
			checkWrong(t, wordOf(s)+1<<bit)
		}
		if len(s) < 7 {
			checkWrong(t, wordOf(s)|(top-1)&^(1<<(8*len(s))-1))
		}
	}
}

func TestWordsByTheRule(t *testing.T) {
	highest := []uint64{0, 1, 2, 3, 4, 5, 6, 7, 8, 9, 15, 16, 127, 128, 248, 254, 255}
	for i := range uint64(5000) {
		mixed := (i + 1) * 0x9e3779b97f4a7c15
		checkByRule(t, mixed)
		for _, h := range highest {
			// Cut to each number of bytes, so that right words are among them.
			for many := range 8 {
				checkByRule(t, h*top+mixed&(1<<(8*many)-1))
			}
		}
	}
}

func TestWordsThatAreWrong(t *testing.T) {
	for _, n := range []uint64{
		1, 97, 255, 256, top - 1, // no bytes, but something in them
		top + 256, 2*top + 1<<16, 6*top + 1<<48, // one byte too many
		8 * top, 8*top - 1 + top, 9 * top, 255 * top, // too many bytes
		1 << 63, math.MaxInt64, math.MaxUint64, math.MaxUint64 - 1,
	} {
		checkWrong(t, n)
	}
}

// K2.

func TestTextOfWordIsTheText(t *testing.T) {
	for _, s := range texts() {
		n, e := pack.Word(s)
		if back, f := pack.Text(n); back != s || e != api.OK || f != api.OK || !pack.Right(n) {
			t.Errorf("%q became %#x, %v, and then %q, %v", s, n, e, back, f)
		}
	}
}

func TestWordOfTextIsTheWord(t *testing.T) {
	right := 0
	for i := range uint64(5000) {
		for many := range uint64(10) {
			n := many*top + (i+1)*0x9e3779b97f4a7c15&(1<<(8*min(many, 7))-1)
			s, e := pack.Text(n)
			if e != api.OK {
				continue
			}
			right++
			checkWord(t, s, n)
		}
	}
	if want := 5000 * 8; right != want {
		t.Errorf("%d words were right, want %d", right, want)
	}
}

func TestTextsThatAreUnlikeAreUnlikeWords(t *testing.T) {
	seen := map[uint64]string{}
	note := func(s string) {
		n, e := pack.Word(s)
		if other, ok := seen[n]; ok && other != s || e != api.OK {
			t.Errorf("%q and %q are both %#x (%v)", s, other, n, e)
		}
		seen[n] = s
	}
	for _, s := range texts() {
		note(s)
	}
	for i := range 65536 {
		note(string([]byte{byte(i), byte(i >> 8)}))
	}
}

func TestNoWordOfATextIsGreat(t *testing.T) {
	for _, s := range texts() {
		if n, _ := pack.Word(s); n >= 1<<59 {
			t.Errorf("Word(%q) = %#x", s, n)
		}
	}
	checkText(t, 1<<59-1, strings.Repeat("\xff", 7))
	for bit := 59; bit < 64; bit++ {
		for _, s := range texts() {
			checkWrong(t, wordOf(s)+1<<bit)
		}
	}
}

// P3, P4: what is handed out and in is nobody else's.

func TestTextsBesideEachOtherAreApart(t *testing.T) {
	var kept []string
	for i := range 1000 {
		s, e := pack.Text(wordOf(fmt.Sprint(i)))
		if e != api.OK {
			t.Fatalf("Text of the word of %d: %v", i, e)
		}
		kept = append(kept, s)
	}
	for i, s := range kept {
		if s != fmt.Sprint(i) {
			t.Errorf("text %d became %q", i, s)
		}
	}
}

func TestAWrongCallLeavesNothingBehind(t *testing.T) {
	for range 2 {
		checkLong(t, "abcdefgh")
		checkBoth(t, "", 0)
		checkWrong(t, math.MaxUint64)
		checkBoth(t, "a", top+'a')
		checkBoth(t, "abcdefg", wordOf("abcdefg"))
		checkBoth(t, "b", top+'b')
	}
}

func TestChapterExample(t *testing.T) {
	checkBoth(t, "ab", 2*top+25185)
}

package op_test

import (
	"math"
	"strings"

	"shellgame/api"
	"shellgame/op"
)

const greatest = math.MaxUint64

// top is how many times the highest byte of a text's word counts.
const top = 1 << 56

// The twin says the chapter once more, from numbers that are written out, without the calls of any layer.

// wordOf is a text's word: the first byte counts once, each next one 256 times as much.
func wordOf(s string) uint64 {
	n := uint64(len(s)) * top
	weight := uint64(1)
	for i := 0; i < len(s); i++ {
		n += uint64(s[i]) * weight
		weight *= 256
	}
	return n
}

// textOf is the text of a word, if it is one's: nothing may be left over behind as many bytes as it has.
func textOf(n uint64) (string, bool) {
	many, rest := n/top, n%top
	s := ""
	for range min(many, 7) {
		s += string([]byte{byte(rest % 256)})
		rest /= 256
	}
	return s, many <= 7 && rest == 0
}

func isText(n uint64) bool {
	_, is := textOf(n)
	return is
}

// rightOp asks the same of all kinds, and then what only some of them may have.
func rightOp(o op.Op) bool {
	if o.Kind < 1 || o.Kind > 5 || o.For < 0 || o.For > 65535 || !isText(o.Key) || !isText(o.Value) {
		return false
	}
	isPut, isLen := o.Kind == 3, o.Kind == 5
	return (o.Key == 0 || !isLen) && (o.Value == 0 || isPut) && (o.For == 0 || isPut)
}

// parts are what an operation's bytes are made of: its texts have up to 255 bytes.
type parts struct {
	kind       int
	key, value string
	time       int
}

// laid is the bytes of these parts, one kind after the other.
func laid(p parts) string {
	switch p.kind {
	case 1:
		return "G" + counted(p.key)
	case 2:
		return "K" + counted(p.key)
	case 3:
		return "P" + string([]byte{byte(p.time % 256), byte(p.time / 256)}) + counted(p.value) + counted(p.key)
	case 4:
		return "D" + counted(p.key)
	case 5:
		return "L"
	}
	return ""
}

func counted(s string) string { return string([]byte{byte(len(s))}) + s }

// opOf is the operation of parts whose texts are short.
func opOf(p parts) op.Op {
	return op.Op{Kind: p.kind, Key: wordOf(p.key), Value: wordOf(p.value), For: p.time}
}

// bytesOf is a right operation's bytes.
func bytesOf(o op.Op) string {
	if !rightOp(o) {
		return ""
	}
	key, _ := textOf(o.Key)
	value, _ := textOf(o.Value)
	return laid(parts{o.Kind, key, value, o.For})
}

// partsOf tells by lengths alone whether a text is an operation's bytes, and of which parts.
func partsOf(s string) (parts, bool) {
	kinds := map[byte]int{'G': 1, 'K': 2, 'P': 3, 'D': 4, 'L': 5}
	if len(s) == 0 || kinds[s[0]] == 0 {
		return parts{}, false
	}
	p := parts{kind: kinds[s[0]]}
	switch p.kind {
	case 3:
		// Five bytes stand there whatever the texts are; the two lengths have to tell of all others.
		if len(s) < 5 || len(s) < 5+int(s[3]) {
			return parts{}, false
		}
		at := 4 + int(s[3])
		if len(s) != 1+at+int(s[at]) {
			return parts{}, false
		}
		p.time, p.value, p.key = int(s[2])*256+int(s[1]), s[4:at], s[at+1:]
	case 5:
		return p, len(s) == 1
	default:
		if len(s) < 2 || len(s) != 2+int(s[1]) {
			return parts{}, false
		}
		p.key = s[2:]
	}
	return p, true
}

// told is what Parse has to answer.
func told(s string) (op.Op, api.Errno) {
	p, is := partsOf(s)
	switch {
	case !is:
		return op.Op{}, 3
	case len(p.key) > 7 || len(p.value) > 7:
		return op.Op{}, 4
	}
	return opOf(p), 0
}

// chance makes words without a pattern, the same ones in each run.
type chance uint64

func (c *chance) next() uint64 {
	*c = *c*6364136223846793005 + 1442695040888963407
	return uint64(*c) >> 32
}

// below is a number from 0 on, of so many.
func (c *chance) below(many int) int { return int(c.next() % uint64(many)) }

// text has so many bytes of any kind.
func (c *chance) text(many int) string {
	l := make([]byte, many)
	for i := range l {
		l[i] = byte(c.next())
	}
	return string(l)
}

// parts are those of any kind, with texts of up to so many bytes.
func (c *chance) parts(most int) parts {
	p := parts{kind: 1 + c.below(5)}
	if p.kind != 5 {
		p.key = c.text(c.below(most + 1))
	}
	if p.kind == 3 {
		p.value, p.time = c.text(c.below(most+1)), c.below(65536)
	}
	return p
}

// texts are short ones, of each length, of bytes of any kind: also such as are a letter or a length.
func texts() []string {
	l := []string{"", "k", "vv", "k v", "abcdefg", "gfedcba", "\x01\x00", "\x00\x01", "\u00e9\u00e9", "\n\t\r\v", "G", "L", "P\x00\x00\x00\x00", "G\x01k", "1234567"}
	for many := 1; many <= 7; many++ {
		for _, b := range []byte{0, 1, 7, 'a', 0x7f, 0x80, 0xff} {
			l = append(l, strings.Repeat(string([]byte{b}), many))
		}
	}
	return l
}

// fewTexts are those that each of two texts may be.
func fewTexts() []string {
	return []string{"", "\x00", "k", "\xff", "vv", "\x01k", "k\x00", "L", "G\x01k", "123456", "abcdefg", "\x00\x00\x00\x00\x00\x00\x00", "\xff\xff\xff\xff\xff\xff\xff"}
}

// noWords are no texts': of lengths above 7, and with something behind the text.
func noWords() []uint64 {
	l := []uint64{
		1, 2, 255, 256, 'k', top - 1, 8 * top, 9 * top, 16 * top, 128 * top, 255 * top, greatest, greatest - 1,
		1 << 59, 1<<59 + 1, 1 << 60, 1 << 62, 1 << 63, 1<<63 + wordOf("k"), 1<<59 + wordOf("k"), 1<<32 - 1,
	}
	for many := range uint64(7) {
		for at := many; at < 7; at++ {
			l = append(l, many*top+1<<(8*at), many*top+128<<(8*at), many*top+255<<(8*at))
		}
	}
	for _, s := range texts() {
		l = append(l, wordOf(s)+8*top, wordOf(s)+128*top)
	}
	return l
}

// times are those of a Put: edges of two bytes, unlike ones, and each power of two and its neighbours.
func times() []int {
	l := []int{0, 2, 3, 7, 100, 258, 513, 0x00ff, 0x0100, 0xff00, 0xfeff, 0xfffe, 0x1234, 0x3412, 'G', 'L' * 256, 65535, 65534, 65533}
	for i := range 16 {
		l = append(l, 1<<i, 1<<i-1, 65535-1<<i)
	}
	return l
}

// noTimes are those that two bytes do not hold.
func noTimes() []int {
	l := []int{-1, -2, -258, -65535, -65536, -65537, 65536, 65537, 65538, 65536 + 258, 131071, math.MinInt, math.MinInt + 1, math.MinInt + 258, math.MaxInt, math.MaxInt - 1}
	for i := 16; i < 63; i++ {
		l = append(l, 1<<i, 1<<i+1, 1<<i+258, -1<<i, -1<<i+1, -1<<i+258)
	}
	return l
}

// noKinds are all sorts of numbers but 1 to 5.
func noKinds() []int {
	l := []int{0, -1, -2, -3, -4, -5, -6, 6, 7, 8, 'G', 'K', 'P', 'D', 'L', math.MinInt, math.MinInt + 1, math.MinInt + 3, math.MinInt + 5, math.MaxInt, math.MaxInt - 1}
	for i := 3; i < 63; i++ {
		for kind := range 6 {
			l = append(l, 1<<i+kind, -1<<i+kind)
		}
	}
	return l
}

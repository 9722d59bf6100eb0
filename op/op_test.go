package op_test

import (
	"fmt"
	"math"
	"strings"
	"sync"
	"testing"

	"shellgame/api"
	"shellgame/op"
	"shellgame/pack"
)

// checkRight asks all of Q1 of an operation that is right, and Q3: it is parsed again from its bytes.
func checkRight(t *testing.T, o op.Op, want string) {
	t.Helper()
	if !op.Right(o) {
		t.Errorf("Right(%+v) = false", o)
	}
	if s := op.Bytes(o); s != want {
		t.Errorf("Bytes(%+v) = %q, not %q", o, s, want)
	}
	checkParse(t, want, o)
}

// checkWrong asks all of Q1 of one that is not.
func checkWrong(t *testing.T, o op.Op) {
	t.Helper()
	if op.Right(o) {
		t.Errorf("Right(%+v) = true", o)
	}
	if s := op.Bytes(o); s != "" {
		t.Errorf("Bytes(%+v) = %q", o, s)
	}
}

func checkOp(t *testing.T, o op.Op) {
	t.Helper()
	if rightOp(o) {
		checkRight(t, o, bytesOf(o))
	} else {
		checkWrong(t, o)
	}
}

func checkParse(t *testing.T, s string, want op.Op) {
	t.Helper()
	if o, e := op.Parse(s); o != want || e != api.OK {
		t.Errorf("Parse(%.99q) = %+v, %v, not %+v", s, o, e, want)
	}
}

func checkNone(t *testing.T, s string, want api.Errno) {
	t.Helper()
	if o, e := op.Parse(s); o != (op.Op{}) || e != want {
		t.Errorf("Parse(%.99q) = %+v, %v, not %v", s, o, e, want)
	}
}

// checkText asks Q2 of any text, and Q3 of one that is an operation's: it is laid out as it was.
func checkText(t *testing.T, s string) {
	t.Helper()
	want, e := told(s)
	if e != api.OK {
		checkNone(t, s, e)
		return
	}
	checkParse(t, s, want)
	if back := op.Bytes(want); back != s || !op.Right(want) {
		t.Errorf("%q is parsed, and laid out as %q", s, back)
	}
}

// kinds are those that are.
func kinds() []int { return []int{op.Get, op.Peek, op.Put, op.Delete, op.Len} }

// keyed are those with a key and nothing else.
func keyed() []int { return []int{op.Get, op.Peek, op.Delete} }

// The chapter's example.
func TestChapterExample(t *testing.T) {
	checkRight(t, op.Op{Kind: op.Put, Key: wordOf("k"), Value: wordOf("vv"), For: 258}, "P\x02\x01\x02vv\x01k")
}

func TestKindsAreNumbered(t *testing.T) {
	if op.None != 0 || op.Get != 1 || op.Peek != 2 || op.Put != 3 || op.Delete != 4 || op.Len != 5 || op.MaxFor != 65535 {
		t.Error(op.None, op.Get, op.Peek, op.Put, op.Delete, op.Len, op.MaxFor)
	}
}

// Q1.

func TestOperationsWrittenOut(t *testing.T) {
	for _, x := range []struct {
		o op.Op
		s string
	}{
		{op.Op{Kind: op.Get}, "G\x00"},
		{op.Op{Kind: op.Get, Key: 0x01_0000000000006b}, "G\x01k"},
		{op.Op{Kind: op.Get, Key: 0x01_00000000000000}, "G\x01\x00"},
		{op.Op{Kind: op.Get, Key: 0x07_67666564636261}, "G\x07abcdefg"},
		{op.Op{Kind: op.Peek}, "K\x00"},
		{op.Op{Kind: op.Peek, Key: 0x02_00000000006b6a}, "K\x02jk"},
		{op.Op{Kind: op.Peek, Key: 0x07_ffffffffffffff}, "K\x07\xff\xff\xff\xff\xff\xff\xff"},
		{op.Op{Kind: op.Delete}, "D\x00"},
		{op.Op{Kind: op.Delete, Key: 0x01_00000000000044}, "D\x01D"},
		{op.Op{Kind: op.Delete, Key: 0x07_00000000000000}, "D\x07\x00\x00\x00\x00\x00\x00\x00"},
		{op.Op{Kind: op.Len}, "L"},
		{op.Op{Kind: op.Put}, "P\x00\x00\x00\x00"},
		{op.Op{Kind: op.Put, Key: 0x01_0000000000006b}, "P\x00\x00\x00\x01k"},
		{op.Op{Kind: op.Put, Value: 0x01_00000000000076}, "P\x00\x00\x01v\x00"},
		{op.Op{Kind: op.Put, For: 1}, "P\x01\x00\x00\x00"},
		{op.Op{Kind: op.Put, For: 256}, "P\x00\x01\x00\x00"},
		{op.Op{Kind: op.Put, For: 255}, "P\xff\x00\x00\x00"},
		{op.Op{Kind: op.Put, For: 65280}, "P\x00\xff\x00\x00"},
		{op.Op{Kind: op.Put, For: 65534}, "P\xfe\xff\x00\x00"},
		{op.Op{Kind: op.Put, For: 65535}, "P\xff\xff\x00\x00"},
		{op.Op{Kind: op.Put, Key: 0x07_67666564636261, Value: 0x07_7a797877767574, For: 0x4c47}, "PGL\x07tuvwxyz\x07abcdefg"},
		{op.Op{Kind: op.Put, Key: 0x02_00000000000001, Value: 0x03_00000000000100, For: 3}, "P\x03\x00\x03\x00\x01\x00\x02\x01\x00"},
	} {
		if bytesOf(x.o) != x.s {
			t.Fatal("the twin", x.o, bytesOf(x.o))
		}
		checkRight(t, x.o, x.s)
	}
}

// The words that pack makes are those of the twin: its texts are keys and values.
func TestTextsAreKeysAndValues(t *testing.T) {
	for _, key := range texts() {
		k, e := pack.Word(key)
		if e != api.OK || k != wordOf(key) {
			t.Fatal(key, k, e)
		}
		for i, kind := range keyed() {
			checkRight(t, op.Op{Kind: kind, Key: k}, "GKD"[i:i+1]+counted(key))
		}
		for _, value := range texts() {
			v, _ := pack.Word(value)
			checkRight(t, op.Op{Kind: op.Put, Key: k, Value: v}, "P\x00\x00"+counted(value)+counted(key))
		}
	}
}

func TestKindsThatAreNone(t *testing.T) {
	for _, kind := range noKinds() {
		for _, o := range []op.Op{
			{}, {Key: wordOf("k")}, {Key: wordOf("abcdefg")}, {Value: wordOf("v")}, {For: 1},
			{Key: wordOf("k"), Value: wordOf("v"), For: 258}, {Key: 1}, {Key: greatest, Value: greatest, For: -1},
		} {
			o.Kind = kind
			checkWrong(t, o)
		}
	}
}

func TestForOfAPut(t *testing.T) {
	for _, o := range []op.Op{{Kind: op.Put}, {Kind: op.Put, Key: wordOf("k"), Value: wordOf("vv")}, {Kind: op.Put, Key: wordOf("abcdefg"), Value: wordOf("1234567")}} {
		for o.For = range 65536 {
			checkRight(t, o, bytesOf(o))
		}
		for _, o.For = range noTimes() {
			checkWrong(t, o)
		}
	}
}

func TestForOfAllButPut(t *testing.T) {
	for _, kind := range append(keyed(), op.Len) {
		for _, time := range append(times(), noTimes()...) {
			if time == 0 {
				continue
			}
			checkWrong(t, op.Op{Kind: kind, For: time})
			checkWrong(t, op.Op{Kind: kind, For: time, Key: wordOf("k")})
		}
	}
}

func TestValueOfAllButPut(t *testing.T) {
	for _, kind := range append(keyed(), op.Len) {
		for _, value := range texts() {
			if value == "" {
				continue
			}
			checkWrong(t, op.Op{Kind: kind, Value: wordOf(value)})
			checkWrong(t, op.Op{Kind: kind, Value: wordOf(value), Key: wordOf("k")})
			checkWrong(t, op.Op{Kind: kind, Value: wordOf(value), Key: wordOf("k"), For: 1})
		}
		for _, n := range noWords() {
			checkWrong(t, op.Op{Kind: kind, Value: n})
			checkWrong(t, op.Op{Kind: kind, Value: n, Key: wordOf("k")})
		}
	}
}

func TestKeyOfLen(t *testing.T) {
	checkRight(t, op.Op{Kind: op.Len}, "L")
	for _, key := range texts() {
		if key != "" {
			checkWrong(t, op.Op{Kind: op.Len, Key: wordOf(key)})
			checkWrong(t, op.Op{Kind: op.Len, Key: wordOf(key), Value: wordOf("v"), For: 1})
		}
	}
	for _, n := range noWords() {
		checkWrong(t, op.Op{Kind: op.Len, Key: n})
	}
}

func TestWordsThatAreNoTexts(t *testing.T) {
	for _, n := range noWords() {
		if isText(n) {
			t.Fatalf("%#x is a text's", n)
		}
		for _, kind := range kinds() {
			checkWrong(t, op.Op{Kind: kind, Key: n})
			checkWrong(t, op.Op{Kind: kind, Value: n})
			checkWrong(t, op.Op{Kind: kind, Key: n, Value: n})
		}
		for _, other := range []uint64{wordOf("k"), wordOf("abcdefg"), 3, greatest} {
			checkWrong(t, op.Op{Kind: op.Put, Key: n, Value: other, For: 5})
			checkWrong(t, op.Op{Kind: op.Put, Key: other, Value: n, For: 5})
		}
	}
}

// Each kind with each sort of key, value and For, right or not.
func TestEachOperation(t *testing.T) {
	words := []uint64{1, 255, 8 * top, 1 << 59, 1 << 63, greatest, wordOf("k") + 1<<32, wordOf("k") + 8*top}
	for _, s := range fewTexts() {
		words = append(words, wordOf(s))
	}
	right := 0
	for _, kind := range []int{math.MinInt, -1, 0, 1, 2, 3, 4, 5, 6, 259, math.MaxInt} {
		for _, key := range words {
			for _, value := range words {
				for _, time := range []int{math.MinInt, -65536, -1, 0, 1, 258, 65535, 65536, 65536 + 258, math.MaxInt} {
					o := op.Op{Kind: kind, Key: key, Value: value, For: time}
					checkOp(t, o)
					if rightOp(o) {
						right++
					}
				}
			}
		}
	}
	few := len(fewTexts())
	if want := 3*few + 4*few*few + 1; right != want {
		t.Errorf("%d were right, not %d", right, want)
	}
}

// Q2.

func TestTextsThatAreNoOperations(t *testing.T) {
	for _, s := range []string{
		"", " ", "X", "\x00", "\x01", "\xff", "g\x01k", "p\x00\x00\x01v\x01k", "l", " L", "L ", "\nL", "L\n", "LL", "Lx", "L\x00", "L\x01k",
		"G", "K", "D", "P", "G\x01", "G\x02k", "G\x01kk", "Gk", "G\x00\x00", "G\x01k\n", "K\x01k\x00", "D\x07123456", "D\x0612345678",
		"P\x00", "P\x00\x00", "P\x00\x00\x00", "P\x00\x00\x01", "P\x00\x00\x01v", "P\x00\x00\x01v\x01", "P\x00\x00\x01v\x01kk", "P\x00\x00\x01vv\x01k",
		"P\x00\x00\x00\x00\x00", "P\x01k", "P\x00\x01k\x01v", "G\xff", "P\xff\xff\xff\xff", "P\x00\x00\x00\xff",
		"G\x01kG\x01k", "LG\x01k", "Gk\x01", "\x01kG", "\u0047\u0100", "\u00a7\x01k",
	} {
		checkNone(t, s, api.ErrForm)
		checkText(t, s)
	}
}

func TestLettersThatAreNone(t *testing.T) {
	for b := range 256 {
		letter := string([]byte{byte(b)})
		for _, rest := range []string{"", "\x00", "\x01k", "\x00\x00\x00\x00", "\x02\x01\x02vv\x01k", "\x0812345678", "\x00\x00\x0812345678\x01k", "G\x01k", "L"} {
			checkText(t, letter+rest)
			if !strings.Contains("GKPDL", letter) {
				checkNone(t, letter+rest, api.ErrForm)
			}
		}
	}
}

func TestLettersAlone(t *testing.T) {
	for _, letter := range []string{"G", "K", "P", "D"} {
		checkNone(t, letter, api.ErrForm)
	}
	checkParse(t, "L", op.Op{Kind: op.Len})
}

// ofAllLengths are parts with texts of unlike bytes, short and long ones.
func ofAllLengths() []parts {
	by := chance(1)
	l := []parts{{kind: op.Len}}
	lengths := []int{0, 1, 2, 6, 7, 8, 9, 15, 16, 127, 128, 254, 255}
	for _, many := range lengths {
		for _, kind := range keyed() {
			l = append(l, parts{kind: kind, key: by.text(many)})
		}
		for _, other := range lengths {
			l = append(l, parts{op.Put, by.text(many), by.text(other), 258})
		}
	}
	return l
}

func TestKeysAndValuesOfAllLengths(t *testing.T) {
	for _, p := range ofAllLengths() {
		s := laid(p)
		if q, is := partsOf(s); q != p || !is {
			t.Fatalf("the twin: %q: %v", s, q)
		}
		if len(p.key) > 7 || len(p.value) > 7 {
			checkNone(t, s, api.ErrLong)
		} else {
			checkRight(t, opOf(p), s)
		}
	}
}

func TestLongTextsWrittenOut(t *testing.T) {
	long := strings.Repeat("x", 255)
	for _, s := range []string{
		"G\x0812345678", "K\x0812345678", "D\x0812345678", "G\x0912345678\x00", "D\x08\x00\x00\x00\x00\x00\x00\x00\x00", "G\x0a1234567890",
		"P\x00\x00\x0812345678\x01k", "P\x00\x00\x01v\x0812345678", "P\x00\x00\x0812345678\x0812345678", "P\x00\x00\x00\x0812345678", "P\x00\x00\x0812345678\x00",
		"P\xff\xff\x0712345\x00\x00\x0812345678", "P\x00\x00\x0812345678\x071234567",
		"G\xff" + long, "K\xff" + long, "D\xff" + long, "P\x00\x00\xff" + long + "\x00", "P\x00\x00\x00\xff" + long, "P\x00\x00\xff" + long + "\xff" + long,
	} {
		checkNone(t, s, api.ErrLong)
	}
	for _, letter := range []string{"G", "K", "D"} {
		checkNone(t, letter+"\xfe"+long[:253], api.ErrForm)
		checkNone(t, letter+"\xfe"+long, api.ErrForm)
		checkNone(t, letter+"\xff"+long+"x", api.ErrForm)
	}
}

// Long texts in what is no operation's bytes: its form is told.
func TestLongTextsOfNoOperation(t *testing.T) {
	long := strings.Repeat("x", 255)
	for _, s := range []string{
		"G\x0812345678x", "G\x0912345678", "K\x081234567", "D\x0812345678\x00", "X\x0812345678", "L\x0812345678", "g\x0812345678", "\x0812345678",
		"P\x00\x00\x0812345678", "P\x00\x00\x0812345678\x02k", "P\x00\x00\x0812345678\x01kk", "P\x00\x00\x0812345678\x01", "P\x00\x00\x0812345678\x00\x00",
		"P\x00\x00\x01v\x0912345678", "P\x00\x00\x01v\x081234567", "P\x00\x00\x01v\x0812345678x", "P\x00\x00\x02v\x0812345678", "P\x00\x0812345678\x01k",
		"P\x00\x00\x0812345678\x0812345678x", "P\x00\x00\x0812345678\x0912345678", "P\x00\x00\x0912345678\x01k",
		"G\xff" + long + "\x00", "G\xff" + long[1:], "P\x00\x00\xff" + long, "P\x00\x00\xff" + long + "\x01", "P\x00\x00\xff" + long + "\xff" + long[1:],
	} {
		checkNone(t, s, api.ErrForm)
		checkText(t, s)
	}
}

// Cut short at each place, and with a byte more behind or ahead, they are no operation's bytes.
func TestBytesCutShortAndLongerOnes(t *testing.T) {
	for _, p := range ofAllLengths() {
		s := laid(p)
		for many := range len(s) {
			checkNone(t, s[:many], api.ErrForm)
		}
		for _, b := range []string{"\x00", "\x01", "L", "G", "\n", " ", "\xff", "xx", "\x01k", s} {
			checkNone(t, s+b, api.ErrForm)
		}
		for _, b := range []string{"\x00", " ", "X", "L"} {
			checkNone(t, b+s, api.ErrForm)
		}
	}
}

// Each other length than that of the text makes it no operation's bytes.
func TestLengthsThatAreNotThoseOfTheText(t *testing.T) {
	for _, many := range []int{0, 1, 7, 8, 255} {
		text := strings.Repeat("x", many)
		for n := range 256 {
			length := string([]byte{byte(n)})
			for _, s := range []string{"G" + length + text, "K" + length + text, "D" + length + text, "P\x02\x01\x00" + length + text, "P\x02\x01\x02vv" + length + text, "P\x02\x01\x0812345678" + length + text} {
				checkText(t, s)
				if n != many {
					checkNone(t, s, api.ErrForm)
				}
			}
		}
	}
}

func TestForOfBytesThatAreUnlike(t *testing.T) {
	for low := range 256 {
		for high := range 256 {
			s := "P" + string([]byte{byte(low), byte(high)}) + "\x01v\x01k"
			checkParse(t, s, op.Op{Kind: op.Put, Key: wordOf("k"), Value: wordOf("v"), For: low + 256*high})
		}
	}
}

// All texts of up to two bytes, and all of a few bytes that count up to six, with each letter ahead.
func TestAllShortTexts(t *testing.T) {
	checkText(t, "")
	for i := range 65536 {
		checkText(t, string([]byte{byte(i)}))
		checkText(t, string([]byte{byte(i), byte(i >> 8)}))
	}
	right := 0
	var longer func(s string)
	longer = func(s string) {
		if _, e := told(s); e == api.OK {
			right++
		}
		checkText(t, s)
		if len(s) < 7 {
			for _, b := range []byte{0, 1, 2, 3, 8, 'L'} {
				longer(s + string([]byte{b}))
			}
		}
	}
	for _, letter := range []string{"G", "K", "P", "D", "L"} {
		longer(letter)
	}
	// 1 + 6 + 36 + 216 keys of three letters, L, and of P, with 36 times as many Fors: no text at all, 6 of one byte, 36 of two, each as key or as value, and 36 of one each.
	if want := 3*(1+6+36+216) + 1 + 36*(1+2*6+2*36+36); right != want {
		t.Errorf("%d were right, not %d", right, want)
	}
}

func TestAnyTexts(t *testing.T) {
	by := chance(2)
	for range 20000 {
		s := by.text(by.below(20))
		checkText(t, s)
		for _, letter := range []string{"G", "K", "P", "D", "L"} {
			checkText(t, letter+s)
		}
	}
	// An operation's, with a byte changed, left out or put in.
	for range 20000 {
		s := laid(by.parts(9))
		checkText(t, s)
		at := by.below(len(s))
		checkText(t, s[:at]+by.text(1)+s[at+1:])
		checkText(t, s[:at]+s[at+1:])
		checkText(t, s[:at]+by.text(1)+s[at:])
	}
	for range 2000 {
		checkText(t, laid(by.parts(255)))
	}
}

// P1: texts of any length.
func TestVeryLongTexts(t *testing.T) {
	for _, many := range []int{256, 257, 263, 264, 511, 512, 517, 518, 65536, 65543, 1 << 20} {
		for _, b := range []string{"\x00", "G", "L", "P", "x", "\x07", "\xff"} {
			long := strings.Repeat(b, many)
			for _, s := range []string{long, "G" + long, "K" + long, "P" + long, "D" + long, "L" + long, "P\x00\x00\x01v" + long} {
				checkText(t, s)
			}
			// A length that is cut to a byte would be right.
			checkNone(t, "G"+string([]byte{byte(many)})+long, api.ErrForm)
			checkNone(t, "P\x00\x00\x00"+string([]byte{byte(many)})+long, api.ErrForm)
			checkNone(t, "P\x00\x00"+string([]byte{byte(many)})+long+"\x01k", api.ErrForm)
		}
	}
}

// Q3.

func TestParseOfBytesIsTheOperation(t *testing.T) {
	by := chance(3)
	for range 50000 {
		o := opOf(by.parts(7))
		if back, e := op.Parse(op.Bytes(o)); back != o || e != api.OK {
			t.Errorf("%+v became %+v, %v", o, back, e)
		}
	}
}

func TestBytesOfParseIsTheText(t *testing.T) {
	by := chance(4)
	for range 50000 {
		s := laid(by.parts(7))
		o, e := op.Parse(s)
		if back := op.Bytes(o); back != s || e != api.OK || !op.Right(o) {
			t.Errorf("%q became %q, %v", s, back, e)
		}
	}
}

func TestOperationsThatAreUnlikeHaveUnlikeBytes(t *testing.T) {
	seen := map[string]op.Op{}
	note := func(o op.Op) {
		s := op.Bytes(o)
		if other, is := seen[s]; is && other != o || s == "" {
			t.Errorf("%+v and %+v are both %q", o, other, s)
		}
		seen[s] = o
	}
	note(op.Op{Kind: op.Len})
	for _, key := range texts() {
		for _, kind := range keyed() {
			note(op.Op{Kind: kind, Key: wordOf(key)})
		}
		for _, value := range fewTexts() {
			for _, time := range times() {
				note(op.Op{Kind: op.Put, Key: wordOf(key), Value: wordOf(value), For: time})
			}
		}
	}
}

// P3, P4: what is handed out and in is nobody else's, and nothing is kept.

func TestBytesBesideEachOtherAreApart(t *testing.T) {
	var kept []string
	ofPut := func(i int) op.Op {
		return op.Op{Kind: op.Put, Key: wordOf(fmt.Sprint(i)), Value: wordOf(fmt.Sprint(9 * i)), For: i}
	}
	for i := range 1000 {
		kept = append(kept, op.Bytes(ofPut(i)))
	}
	for i, s := range kept {
		if s != bytesOf(ofPut(i)) {
			t.Errorf("text %d became %q", i, s)
		}
	}
}

func TestAWrongCallLeavesNothingBehind(t *testing.T) {
	for range 2 {
		checkNone(t, "P\x02\x01\x02vv\x01kk", api.ErrForm)
		checkParse(t, "L", op.Op{Kind: op.Len})
		checkNone(t, "P\x02\x01\x02vv\x0812345678", api.ErrLong)
		checkParse(t, "G\x00", op.Op{Kind: op.Get})
		checkWrong(t, op.Op{Kind: op.Put, Key: wordOf("k"), Value: wordOf("v"), For: -1})
		checkRight(t, op.Op{Kind: op.Put}, "P\x00\x00\x00\x00")
		checkNone(t, "P\x02", api.ErrForm)
		checkRight(t, op.Op{Kind: op.Delete, Key: wordOf("abcdefg")}, "D\x07abcdefg")
	}
}

func TestManyAskAtOnce(t *testing.T) {
	var all sync.WaitGroup
	for n := range 8 {
		all.Go(func() {
			by := chance(n)
			for range 2000 {
				p := by.parts(9)
				checkText(t, laid(p))
				checkText(t, by.text(by.below(9)))
				if len(p.key) <= 7 && len(p.value) <= 7 {
					checkRight(t, opOf(p), laid(p))
				}
				checkWrong(t, op.Op{Kind: 6 + n, Key: wordOf("k")})
			}
		})
	}
	all.Wait()
}

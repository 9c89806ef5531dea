package line

import (
	"bytes"
	"fmt"
	"iter"
	"slices"
	"strings"
	"testing"

	"cuirass/api"
)

// counted is the line of first, first and step, and so on: by an odd step all its bytes are unlike.
func counted(first, step byte) (l Line) {
	for i := range l {
		l[i] = first + byte(i)*step
	}
	return l
}

// single is the line with one byte set.
func single(place int, x byte) (l Line) {
	l[place] = x
	return l
}

// lines are the line of noughts, those of one byte, those with one byte set, and such as follow no simple rule.
func lines() []Line {
	told := []Line{{}, Fill(1), Fill(0x80), Fill(0xff), counted(0, 1), counted(1, 1), counted(0xc0, 1), counted(9, 37), counted(0xff, 0xfd)}
	for i := range 64 {
		told = append(told, single(i, 1), single(i, 0xf0))
	}
	seed := uint64(11)
	for range 200 {
		var l Line
		for i := range l {
			seed = seed*6364136223846793005 + 1442695040888963407
			l[i] = byte(seed >> 56)
		}
		told = append(told, l)
	}
	return told
}

// masks are none, all, each one bit, all but one, and such as follow no simple rule.
func masks() []uint64 {
	told := []uint64{0, 1<<64 - 1, 0xff, 0xff << 56, 0x00ff00ff00ff00ff, 0xaaaaaaaaaaaaaaaa, 0x5555555555555555, 1<<32 - 1, 1<<64 - 1<<32, 1<<63 | 1, 1<<31 | 1<<32}
	for i := range 64 {
		told = append(told, 1<<i, ^uint64(1<<i))
	}
	seed := uint64(3)
	for range 200 {
		seed = seed*6364136223846793005 + 1442695040888963407
		told = append(told, seed>>32|seed<<32)
	}
	return told
}

// item is what comes at a time: a number, and what it is the number of.
type item[V comparable] struct {
	number int
	value  V
}

func collect[V comparable](come iter.Seq2[int, V]) (items []item[V]) {
	for number, value := range come {
		items = append(items, item[V]{number, value})
	}
	return items
}

// upTo takes n of what comes, and tells whether any more came though none was asked for.
func upTo[V comparable](come iter.Seq2[int, V], n int) (taken []item[V], more bool) {
	left := false
	come(func(number int, value V) bool {
		if left {
			more = true
			return false
		}
		taken = append(taken, item[V]{number, value})
		left = len(taken) >= n
		return !left
	})
	return taken, more
}

// checkComes goes to the end, leaves behind each item, and goes to the end anew.
func checkComes[V comparable](t *testing.T, come iter.Seq2[int, V], want []item[V]) {
	t.Helper()
	if got := collect(come); !slices.Equal(got, want) {
		t.Fatalf("%v, not %v", got, want)
	}
	for n := 1; n <= len(want)+1; n++ {
		taken, more := upTo(come, n)
		if !slices.Equal(taken, want[:min(n, len(want))]) || more {
			t.Fatalf("asked for %d of %v: %v, more: %v", n, want, taken, more)
		}
	}
	for number, value := range come { // one range within another
		if number >= len(want) || want[number] != (item[V]{number, value}) {
			t.Fatalf("%d: %v, not of %v", number, value, want)
		}
		if got := collect(come); !slices.Equal(got, want) {
			t.Fatalf("within a range: %v, not %v", got, want)
		}
	}
}

// P6.1

func TestLineHasItsBytes(t *testing.T) {
	if got := [2]int{len(Line{}), api.LineBytes}; got != [2]int{64, 64} {
		t.Error(got)
	}
}

func TestOfOtherSizes(t *testing.T) {
	room := bytes.Repeat([]byte{7}, 200)
	for _, n := range []int{0, 1, 8, 32, 62, 63, 65, 66, 72, 127, 128, 200} {
		if l, e := Of(room[:n]); l != (Line{}) || e != api.ErrSize {
			t.Errorf("of %d bytes: %v, %d", n, l, e)
		}
		if l, e := Of(slices.Clip(room[:n])); l != (Line{}) || e != api.ErrSize {
			t.Errorf("of %d bytes without spare room: %v, %d", n, l, e)
		}
	}
	if l, e := Of(nil); l != (Line{}) || e != api.ErrSize {
		t.Error(l, e)
	}
	if l, e := Of([]byte{}); l != (Line{}) || e != api.ErrSize {
		t.Error(l, e)
	}
}

func TestOf(t *testing.T) {
	for _, want := range lines() {
		room := append([]byte{0xee}, want[:]...)
		room = append(room, 0xdd, 0xcc)
		before := slices.Clone(room)
		if l, e := Of(room[1:65]); l != want || e != api.OK {
			t.Errorf("%v, %d, not %v", l, e, want)
		}
		if !bytes.Equal(room, before) {
			t.Errorf("%v has become %v", before, room)
		}
	}
}

func TestOfKeepsNothing(t *testing.T) {
	want := counted(0, 1)
	b := slices.Clone(want[:])
	l, e := Of(b)
	for i := range b {
		b[i] = 0xaa
	}
	if l != want || e != api.OK {
		t.Error("the line hangs on what was handed in:", l, e)
	}
	m, _ := Of(b)
	for i := range m {
		m[i] = 0x55
	}
	if !bytes.Equal(b, bytes.Repeat([]byte{0xaa}, 64)) {
		t.Error("what was handed in hangs on the line:", b)
	}
}

func TestFill(t *testing.T) {
	for x := range 256 {
		l := Fill(byte(x))
		if !bytes.Equal(l[:], bytes.Repeat([]byte{byte(x)}, 64)) {
			t.Errorf("Fill(%d) = %v", x, l)
		}
	}
}

func TestMergeExample(t *testing.T) {
	l := Fill(0).Merge(Fill(7), 5)
	if l != (Line{0: 7, 2: 7}) {
		t.Error(l)
	}
	if got := l.Hex(); got != "070007"+strings.Repeat("0", 122) {
		t.Error(got)
	}
}

func TestMergeByNoneAndAll(t *testing.T) {
	l, o := counted(0, 1), counted(0x80, 3)
	if got := l.Merge(o, 0); got != l {
		t.Error(got)
	}
	if got := l.Merge(o, 1<<64-1); got != o {
		t.Error(got)
	}
	if got := o.Merge(l, 1<<32-1); got != FromHalves([2][32]byte{[32]byte(l[:32]), [32]byte(o[32:])}) {
		t.Error(got)
	}
}

func TestMergeByOneBit(t *testing.T) {
	l, o := counted(0, 1), counted(0x80, 1)
	for i := range 64 {
		want := l
		want[i] = 0x80 + byte(i)
		if got := l.Merge(o, 1<<i); got != want {
			t.Errorf("by the bit %d: %v", i, got)
		}
		want = o
		want[i] = byte(i)
		if got := l.Merge(o, ^uint64(1<<i)); got != want {
			t.Errorf("by all but the bit %d: %v", i, got)
		}
	}
}

func TestMerge(t *testing.T) {
	some := lines()
	for n, mask := range masks() {
		for k := range 20 {
			l, o := some[(7*n+k)%len(some)], some[(3*n+11*k+5)%len(some)]
			beforeL, beforeO := l, o
			got := l.Merge(o, mask)
			rest := mask
			for i := range got {
				want := l[i]
				if rest%2 == 1 {
					want = o[i]
				}
				rest /= 2
				if got[i] != want {
					t.Fatalf("%v and %v by %x: %v, wrong at %d", l, o, mask, got, i)
				}
			}
			if l != beforeL || o != beforeO {
				t.Fatalf("%v and %v have become %v and %v", beforeL, beforeO, l, o)
			}
		}
	}
}

func TestMergeTurnsNeither(t *testing.T) {
	l, o := counted(0, 1), counted(0x80, 1)
	for _, mask := range masks() {
		got := l.Merge(o, mask)
		for i := range got {
			got[i] = 0xee
		}
		if l != counted(0, 1) || o != counted(0x80, 1) {
			t.Fatalf("by %x: %v and %v", mask, l, o)
		}
		if l.Merge(l, mask) != l {
			t.Fatalf("by %x with itself: %v", mask, l.Merge(l, mask))
		}
	}
}

func TestFull(t *testing.T) {
	if !Full(1<<64 - 1) {
		t.Error("all ones")
	}
	if Full(0) {
		t.Error("no ones")
	}
	for i := range 64 {
		if Full(1<<64 - 1 - 1<<i) {
			t.Errorf("all but the bit %d", i)
		}
		if Full(1 << i) {
			t.Errorf("the bit %d", i)
		}
		if Full(1<<i - 1) {
			t.Errorf("the bits below %d", i)
		}
	}
	for _, mask := range masks() {
		if Full(mask) != (mask == 1<<64-1) {
			t.Errorf("%x", mask)
		}
	}
}

// P6.2

// slowWords makes each word from its highest byte on.
func slowWords(l Line) (want []item[uint64]) {
	for k := range 8 {
		word := uint64(0)
		for i := 7; i >= 0; i-- {
			word = word*256 + uint64(l[8*k+i])
		}
		want = append(want, item[uint64]{k, word})
	}
	return want
}

func slowHalves(l Line) (want []item[[32]byte]) {
	var halves [2][32]byte
	for i, x := range l {
		halves[i/32][i%32] = x
	}
	return []item[[32]byte]{{0, halves[0]}, {1, halves[1]}}
}

func TestWordsOfUnlikeBytes(t *testing.T) {
	checkComes(t, counted(0, 1).Words(), []item[uint64]{
		{0, 0x0706050403020100}, {1, 0x0f0e0d0c0b0a0908}, {2, 0x1716151413121110}, {3, 0x1f1e1d1c1b1a1918},
		{4, 0x2726252423222120}, {5, 0x2f2e2d2c2b2a2928}, {6, 0x3736353433323130}, {7, 0x3f3e3d3c3b3a3938},
	})
	checkComes(t, counted(0xff, 0xff).Words(), []item[uint64]{
		{0, 0xf8f9fafbfcfdfeff}, {1, 0xf0f1f2f3f4f5f6f7}, {2, 0xe8e9eaebecedeeef}, {3, 0xe0e1e2e3e4e5e6e7},
		{4, 0xd8d9dadbdcdddedf}, {5, 0xd0d1d2d3d4d5d6d7}, {6, 0xc8c9cacbcccdcecf}, {7, 0xc0c1c2c3c4c5c6c7},
	})
}

func TestHalvesOfUnlikeBytes(t *testing.T) {
	var first, second [32]byte
	for i := range 32 {
		first[i], second[i] = byte(i), byte(32+i)
	}
	checkComes(t, counted(0, 1).Halves(), []item[[32]byte]{{0, first}, {1, second}})
	for i := range 32 {
		first[i], second[i] = byte(255-i), byte(223-i)
	}
	checkComes(t, counted(0xff, 0xff).Halves(), []item[[32]byte]{{0, first}, {1, second}})
}

func TestWordsAndHalves(t *testing.T) {
	for _, l := range lines() {
		before := l
		checkComes(t, l.Words(), slowWords(l))
		checkComes(t, l.Halves(), slowHalves(l))
		if l != before {
			t.Fatalf("%v has become %v", before, l)
		}
	}
}

// What comes is of the line as it was when it was asked for its parts, whatever becomes of the variable that held it.
func TestWordsAndHalvesOfALineThatIsWrittenTo(t *testing.T) {
	l := counted(0, 1)
	words, halves := l.Words(), l.Halves()
	for i := range l {
		l[i] = 0xee
	}
	checkComes(t, words, slowWords(counted(0, 1)))
	checkComes(t, halves, slowHalves(counted(0, 1)))
}

// A half that was told is the caller's to write to, also while the others come.
func TestHalvesThatAreWrittenTo(t *testing.T) {
	halves := counted(0, 1).Halves()
	for range 2 {
		for k, half := range halves {
			if half != slowHalves(counted(0, 1))[k].value {
				t.Fatal(k, half)
			}
			for i := range half {
				half[i] = 0xee
			}
		}
	}
}

func TestFromWordsByHand(t *testing.T) {
	for i, x := range []struct {
		words [8]uint64
		want  Line
	}{
		{[8]uint64{}, Line{}},
		{[8]uint64{1}, Line{0: 1}},
		{[8]uint64{0x0807060504030201}, Line{0: 1, 1: 2, 2: 3, 3: 4, 4: 5, 5: 6, 6: 7, 7: 8}},
		{[8]uint64{1: 0x80}, Line{8: 0x80}},
		{[8]uint64{2: 0xff00, 5: 0xfe << 24}, Line{17: 0xff, 43: 0xfe}},
		{[8]uint64{7: 1 << 63}, Line{63: 0x80}},
		{[8]uint64{0: 0x9a << 56, 7: 0x9b}, Line{7: 0x9a, 56: 0x9b}},
		{[8]uint64{1<<64 - 1, 1<<64 - 1, 1<<64 - 1, 1<<64 - 1, 1<<64 - 1, 1<<64 - 1, 1<<64 - 1, 1<<64 - 1}, Fill(0xff)},
	} {
		if got := FromWords(x.words); got != x.want {
			t.Errorf("%d: %v, not %v", i, got, x.want)
		}
	}
}

func TestFromHalvesByHand(t *testing.T) {
	var threes [32]byte
	var upper Line
	for i := range threes {
		threes[i] = 3
		upper[32+i] = 3
	}
	for i, x := range []struct {
		halves [2][32]byte
		want   Line
	}{
		{[2][32]byte{}, Line{}},
		{[2][32]byte{{0: 1}, {}}, Line{0: 1}},
		{[2][32]byte{{31: 1}, {}}, Line{31: 1}},
		{[2][32]byte{{}, {0: 0xfe}}, Line{32: 0xfe}},
		{[2][32]byte{{5: 6}, {31: 2}}, Line{5: 6, 63: 2}},
		{[2][32]byte{{}, threes}, upper},
		{[2][32]byte{threes, threes}, Fill(3)},
	} {
		if got := FromHalves(x.halves); got != x.want {
			t.Errorf("%d: %v, not %v", i, got, x.want)
		}
	}
}

func TestFromWhatWasTold(t *testing.T) {
	for _, l := range lines() {
		var words [8]uint64
		for k, word := range l.Words() {
			words[k] = word
		}
		before := words
		if got := FromWords(words); got != l {
			t.Errorf("FromWords(%x) = %v, not %v", words, got, l)
		}
		if words != before {
			t.Errorf("%x has become %x", before, words)
		}
		var halves [2][32]byte
		for k, half := range l.Halves() {
			halves[k] = half
		}
		again := halves
		if got := FromHalves(halves); got != l {
			t.Errorf("FromHalves(%x) = %v, not %v", halves, got, l)
		}
		if halves != again {
			t.Errorf("%x has become %x", again, halves)
		}
	}
}

// P6.3

func TestHexByHand(t *testing.T) {
	for i, x := range []struct {
		line Line
		want string
	}{
		{Line{}, strings.Repeat("00", 64)},
		{Fill(0x0f), strings.Repeat("0f", 64)},
		{Fill(0xf0), strings.Repeat("f0", 64)},
		{Fill(0x90), strings.Repeat("90", 64)},
		{Fill(0xa9), strings.Repeat("a9", 64)},
		{Fill(0xff), strings.Repeat("ff", 64)},
		{Line{0: 0x12, 63: 0xab}, "12" + strings.Repeat("00", 62) + "ab"},
		{Line{0: 1, 1: 9, 2: 10, 3: 15, 4: 16, 5: 159, 6: 160, 7: 0xbc, 8: 0xcd, 9: 0xde, 10: 0xef, 11: 0xfa}, "01090a0f109fa0bccddeeffa" + strings.Repeat("0", 104)},
	} {
		if got := x.line.Hex(); got != x.want {
			t.Errorf("%d: %s, not %s", i, got, x.want)
		}
		if got, e := Read(x.want); got != x.line || e != api.OK {
			t.Errorf("%d: %v, %d", i, got, e)
		}
	}
}

// Each value of a byte, at each place, is written and read.
func TestHexAndReadOfEachByte(t *testing.T) {
	for i := range 64 {
		for x := range 256 {
			l := single(i, byte(x))
			want := strings.Repeat("00", i) + fmt.Sprintf("%02x", x) + strings.Repeat("00", 63-i)
			if got := l.Hex(); got != want {
				t.Fatalf("Hex of %v: %s", l, got)
			}
			if got, e := Read(want); got != l || e != api.OK {
				t.Fatalf("Read(%s) = %v, %d", want, got, e)
			}
		}
	}
}

func TestHexAndRead(t *testing.T) {
	for _, l := range lines() {
		before := l
		s := l.Hex()
		if want := fmt.Sprintf("%x", l[:]); s != want || len(s) != 128 {
			t.Errorf("Hex of %v: %s, not %s", l, s, want)
		}
		if got, e := Read(s); got != l || e != api.OK {
			t.Errorf("Read(%s) = %v, %d", s, got, e)
		}
		if l != before {
			t.Errorf("%v has become %v", before, l)
		}
	}
}

// checkNone looks for ErrForm, and noughts beside it.
func checkNone(t *testing.T, s string) {
	t.Helper()
	if l, e := Read(s); l != (Line{}) || e != api.ErrForm {
		t.Errorf("Read(%q) = %v, %d", s, l, e)
	}
}

func TestReadOtherLengths(t *testing.T) {
	s := counted(0x91, 5).Hex()
	for n := range 128 {
		checkNone(t, s[:n])
		checkNone(t, s[128-n:])
	}
	for _, more := range []string{"0", "f", "00", " ", "\n", "\x00", "é", s} {
		checkNone(t, s+more)
		checkNone(t, more+s)
	}
	for _, n := range []int{0, 1, 2, 63, 64, 126, 127, 129, 130, 192, 256, 1 << 16} {
		checkNone(t, strings.Repeat("7", n))
	}
	if l, e := Read(strings.Repeat("7", 128)); l != Fill(0x77) || e != api.OK {
		t.Error(l, e)
	}
}

// put lays a character over the digit at i, so that the text has 128 characters still, and, if it fits, 128 bytes still as well.
func put(t *testing.T, s string, i int, character string) {
	t.Helper()
	checkNone(t, s[:i]+character+s[i+1:])
	if end := i + len(character); end <= len(s) {
		checkNone(t, s[:i]+character+s[end:])
	}
}

func TestReadCapitals(t *testing.T) {
	for _, s := range []string{counted(0xa0, 1).Hex(), strings.Repeat("ab", 64), strings.Repeat("0", 128)} {
		for i := range 128 {
			for _, capital := range []string{"A", "B", "C", "D", "E", "F"} {
				put(t, s, i, capital)
			}
		}
	}
	checkNone(t, strings.Repeat("A", 128))
	checkNone(t, strings.ToUpper(counted(0xa0, 1).Hex()))
}

// Each other character of one byte, those beside the digits' ends among them, is refused at the first place, at the last one, and between.
func TestReadOtherCharacters(t *testing.T) {
	s := counted(0x91, 5).Hex()
	for x := range rune(128) {
		if strings.ContainsRune("0123456789abcdef", x) {
			continue
		}
		for _, i := range []int{0, 1, 62, 63, 64, 65, 126, 127} {
			put(t, s, i, string(x))
		}
		checkNone(t, strings.Repeat(string(x), 128))
		checkNone(t, strings.Repeat(string(x), 64))
	}
	for i := range 128 {
		put(t, s, i, "g")
		put(t, s, i, "/")
		put(t, s, i, ":")
		put(t, s, i, "`")
		put(t, s, i, " ")
	}
	checkNone(t, "0x"+s[2:])
	checkNone(t, "0x"+s)
	checkNone(t, "+"+s[1:])
	checkNone(t, "-"+s[1:])
	checkNone(t, s[:64]+"_"+s[65:])
}

// Characters of more than one byte: digits of other scripts, and such whose numbers end in those of digits.
func TestReadLongCharacters(t *testing.T) {
	s := counted(0x91, 5).Hex()
	for _, character := range []rune{0xe9, 0x130, 0x161, 0x3b1, 0x660, 0x7c0, 0x966, 0x2030, 0x2061, 0x2170, 0xff10, 0xff41, 0xfffd, 0xfeff, 0x10030, 0x10061, 0x1d7ce, 0x10ffff} {
		for i := range 128 {
			put(t, s, i, string(character))
		}
		checkNone(t, strings.Repeat(string(character), 128))
		checkNone(t, strings.Repeat(string(character), 128/len(string(character))))
	}
}

// Bytes that are no character: such as begin none, that go on with none, that end too early, surrogates, and numbers that are too great.
func TestReadBytesThatAreNoCharacter(t *testing.T) {
	s := counted(0x91, 5).Hex()
	for x := 128; x < 256; x++ {
		for _, i := range []int{0, 1, 63, 64, 126, 127} {
			put(t, s, i, string([]byte{byte(x)}))
		}
		checkNone(t, strings.Repeat(string([]byte{byte(x)}), 128))
	}
	for _, none := range []string{"\xc3", "\xe2\x82", "\xf0\x9f\x98", "\xc0\xb0", "\xc1\xa1", "\xe0\x80\xb0", "\xed\xa0\x80", "\xf4\x90\x80\x80", "\xf8\x88\x80\x80\x80", "\xff\xff"} {
		for i := range 128 {
			put(t, s, i, none)
		}
	}
}

// P1 and P6.3: whatever the text, what is read is what Hex writes so, or there is none.
func FuzzRead(f *testing.F) {
	s := counted(0x91, 5).Hex()
	for _, text := range []string{"", s, s[1:], s + "0", strings.ToUpper(s), "é" + s[2:], "\xff" + s[1:]} {
		f.Add(text)
	}
	f.Fuzz(func(t *testing.T, text string) {
		l, e := Read(text)
		switch e {
		case api.OK:
			if l.Hex() != text {
				t.Errorf("Read(%q) = %v", text, l)
			}
		case api.ErrForm:
			if l != (Line{}) || len(text) == 128 && strings.Trim(text, "0123456789abcdef") == "" {
				t.Errorf("Read(%q) = %v, %d", text, l, e)
			}
		default:
			t.Errorf("Read(%q) = %v, %d", text, l, e)
		}
	})
}

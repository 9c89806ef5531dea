package raw

import (
	"bytes"
	"iter"
	"math"
	"slices"
	"testing"

	"cuirass/api"
)

// shape is a mode with how many words and chips it has, by the document's words.
type shape struct{ mode, words, chips int }

func shapes() []shape {
	return []shape{{1, 8, 9}, {2, 2, 36}}
}

// edges are the numbers at the ends of int, and such whose sums, products and lowest bits are those of small ones.
func edges() []int {
	return []int{
		math.MinInt, math.MinInt + 1, math.MinInt + 2, math.MinInt + 9, math.MinInt + 575, math.MinInt / 8, math.MinInt / 9, math.MinInt / 36, math.MinInt32, -1 << 16, -256, -255, -254,
		256, 257, 258, 1 << 16, 1<<16 + 1, math.MaxInt32, 1 << 32, 1<<32 + 1, 1<<32 + 2, 1 << 58, 1 << 60, 1 << 61, 1 << 62, math.MaxInt / 36, math.MaxInt / 9, math.MaxInt / 8, math.MaxInt - 575, math.MaxInt - 1, math.MaxInt,
	}
}

// wrongModes are numbers that no mode has.
func wrongModes() []int {
	return append(edges(), 0, 3, 4, 5, 8, 9, 36, 72, -1, -2, -3)
}

// outside are numbers that none of count things has.
func outside(count int) []int {
	numbers := []int{-1, -2, -count, -count - 1, count, count + 1, 2 * count}
	for _, n := range edges() {
		if n < 0 || n >= count {
			numbers = append(numbers, n)
		}
	}
	return numbers
}

// counting has each byte another one: its place.
func counting() (r Raw) {
	for i := range r {
		r[i] = byte(i)
	}
	return r
}

// filled has all bytes alike.
func filled(x byte) (r Raw) {
	for i := range r {
		r[i] = x
	}
	return r
}

// some are raw bytes of noughts, of ones, with each byte another one, and such as follow no simple rule.
func some() []Raw {
	told := []Raw{{}, filled(0xFF), counting()}
	seed := uint32(7)
	for range 5 {
		var r Raw
		for i := range r {
			seed = seed*1664525 + 1013904223
			r[i] = byte(seed >> 24)
		}
		told = append(told, r)
	}
	return told
}

// bytesFrom are n bytes, no two beside each other alike.
func bytesFrom(first byte, n int) []byte {
	b := make([]byte, n)
	for i := range b {
		b[i] = first + byte(i)
	}
	return b
}

// bitOf is a bit of raw bytes, found by halving its byte.
func bitOf(r Raw, i int) int {
	x := int(r[i/8])
	for range i % 8 {
		x /= 2
	}
	return x % 2
}

// withBit is r with a bit as value, 0 or 1, by adding or taking off what it stands for.
func withBit(r Raw, i, value int) Raw {
	stands := byte(1)
	for range i % 8 {
		stands *= 2
	}
	if bitOf(r, i) < value {
		r[i/8] += stands
	}
	if bitOf(r, i) > value {
		r[i/8] -= stands
	}
	return r
}

// places are where the bytes of a chip stand, by going through all bytes word by word.
func places(s shape, chip int) (told []int) {
	at := 0
	for range s.words {
		for other := range s.chips {
			if other == chip {
				told = append(told, at)
			}
			at++
		}
	}
	return told
}

// upTo takes n of what comes, and tells whether any more came though none was asked for.
func upTo(come iter.Seq[int], n int) (taken []int, more bool) {
	left := false
	come(func(i int) bool {
		if left {
			more = true
			return false
		}
		taken = append(taken, i)
		left = len(taken) >= n
		return !left
	})
	return taken, more
}

// P9.1

func TestModes(t *testing.T) {
	if Bits != 1 || Chips != 2 {
		t.Error(Bits, Chips)
	}
	for _, s := range shapes() {
		if !Right(s.mode) || CountChips(s.mode) != s.chips || CountWords(s.mode) != s.words {
			t.Errorf("%v: %v, %d chips, %d words", s, Right(s.mode), CountChips(s.mode), CountWords(s.mode))
		}
	}
	for _, mode := range wrongModes() {
		if Right(mode) || CountChips(mode) != 0 || CountWords(mode) != 0 {
			t.Errorf("%d: %v, %d chips, %d words", mode, Right(mode), CountChips(mode), CountWords(mode))
		}
	}
}

func TestExample(t *testing.T) {
	r := counting()
	if b := r.Word(1, 2); len(b) != 9 || b[3] != 21 {
		t.Error(b)
	}
	if got := slices.Collect(Of(1, 3)); len(got) != 8 || got[2] != 21 {
		t.Error(got)
	}
	if word, chip, e := Whose(1, 21*8); word != 2 || chip != 3 || e != api.OK {
		t.Error(word, chip, e)
	}
}

func TestWord(t *testing.T) {
	for _, s := range shapes() {
		for _, r := range some() {
			at := 0
			for word := range s.words {
				var want []byte
				for range s.chips {
					want = append(want, r[at])
					at++
				}
				if got := r.Word(s.mode, word); !bytes.Equal(got, want) {
					t.Errorf("%v: Word(%d) = %x, not %x", s, word, got, want)
				}
			}
		}
	}
	r := counting()
	if got := r.Word(Bits, 7); !bytes.Equal(got, []byte{63, 64, 65, 66, 67, 68, 69, 70, 71}) {
		t.Error(got)
	}
	if got := r.Word(Chips, 1); !bytes.Equal(got, bytesFrom(36, 36)) {
		t.Error(got)
	}
}

func TestNoWord(t *testing.T) {
	r := counting()
	for _, s := range shapes() {
		for _, word := range outside(s.words) {
			if got := r.Word(s.mode, word); len(got) != 0 {
				t.Errorf("%v: Word(%d) = %x", s, word, got)
			}
		}
	}
	for _, mode := range wrongModes() {
		for _, word := range append(edges(), -1, 0, 1, 2, 7, 8) {
			if got := r.Word(mode, word); len(got) != 0 {
				t.Errorf("the mode %d: Word(%d) = %x", mode, word, got)
			}
		}
	}
}

// What is told is written all over, its spare room too: neither what it is of nor what is told of it again is other then.
func TestWordIsOtherMemory(t *testing.T) {
	for _, s := range shapes() {
		for word := range s.words {
			r := counting()
			first, second := r.Word(s.mode, word), r.Word(s.mode, word)
			want := slices.Clone(second)
			first = first[:cap(first)]
			for i := range first {
				first[i] = 0xEE
			}
			if r != counting() || !bytes.Equal(second, want) || !bytes.Equal(r.Word(s.mode, word), want) {
				t.Errorf("%v: the word %d is other by what was told of it", s, word)
			}
		}
	}
}

func TestPut(t *testing.T) {
	for _, s := range shapes() {
		for _, r := range some() {
			for word := range s.words {
				before := r
				b := bytesFrom(200, s.chips)
				want := r
				for i, x := range b {
					want[word*s.chips+i] = x
				}
				got := r.Put(s.mode, word, b)
				if got != want || r != before || !bytes.Equal(b, bytesFrom(200, s.chips)) {
					t.Fatalf("%v: Put(%d) = %x, not %x", s, word, got, want)
				}
				if back := got.Word(s.mode, word); !bytes.Equal(back, b) {
					t.Fatalf("%v: Word(%d) = %x, not %x", s, word, back, b)
				}
				if again := got.Put(s.mode, word, r.Word(s.mode, word)); again != r {
					t.Fatalf("%v: put back: %x, not %x", s, again, r)
				}
			}
		}
	}
}

// What isn't put changes nothing: no word, no mode, or another number of bytes.
func TestNothingIsPut(t *testing.T) {
	r := counting()
	for _, s := range shapes() {
		for _, word := range outside(s.words) {
			if got := r.Put(s.mode, word, make([]byte, s.chips)); got != r {
				t.Errorf("%v: Put(%d) = %x", s, word, got)
			}
		}
		for word := range s.words {
			for _, n := range []int{0, 1, 8, 9, 10, 35, 36, 37, 64, 72, 73, 1 << 20} {
				if n != s.chips && r.Put(s.mode, word, make([]byte, n)) != r {
					t.Errorf("%v: Put(%d) of %d bytes", s, word, n)
				}
			}
			if r.Put(s.mode, word, nil) != r || r.Put(s.mode, word, []byte{}) != r {
				t.Errorf("%v: Put(%d) of none", s, word)
			}
		}
	}
	for _, mode := range wrongModes() {
		for _, word := range append(edges(), -1, 0, 1, 7, 8) {
			for _, n := range []int{0, 1, 9, 36, 72} {
				if got := r.Put(mode, word, make([]byte, n)); got != r {
					t.Errorf("the mode %d: Put(%d) of %d bytes = %x", mode, word, n, got)
				}
			}
		}
	}
}

// What was put is written all over behind that, and so is room that b didn't have.
func TestPutKeepsNothing(t *testing.T) {
	for _, s := range shapes() {
		for word := range s.words {
			room := bytesFrom(100, s.chips+5)
			r := counting()
			put := r.Put(s.mode, word, room[:s.chips])
			want := put
			if !bytes.Equal(room, bytesFrom(100, s.chips+5)) {
				t.Errorf("%v: Put(%d) changed what it was given: %x", s, word, room)
			}
			for i := range room {
				room[i] = 0xEE
			}
			if put != want || r != counting() || !bytes.Equal(put.Word(s.mode, word), bytesFrom(100, s.chips)) {
				t.Errorf("%v: Put(%d) kept what it was given", s, word)
			}
		}
	}
}

func TestOf(t *testing.T) {
	for _, s := range shapes() {
		for chip := range s.chips {
			come := Of(s.mode, chip)
			want := places(s, chip)
			for range 2 {
				if got := slices.Collect(come); !slices.Equal(got, want) {
					t.Errorf("%v: Of(%d): %v, not %v", s, chip, got, want)
				}
			}
			for n := 1; n <= s.words+1; n++ {
				taken, more := upTo(come, n)
				if !slices.Equal(taken, want[:min(n, s.words)]) || more {
					t.Errorf("%v: Of(%d), asked for %d: %v, more: %v", s, chip, n, taken, more)
				}
			}
			if again := slices.Collect(come); !slices.Equal(again, want) {
				t.Errorf("%v: Of(%d) again: %v, not %v", s, chip, again, want)
			}
		}
	}
	if got := slices.Collect(Of(Bits, 8)); !slices.Equal(got, []int{8, 17, 26, 35, 44, 53, 62, 71}) {
		t.Error(got)
	}
	if got := slices.Collect(Of(Chips, 0)); !slices.Equal(got, []int{0, 36}) {
		t.Error(got)
	}
}

func TestOfNoChip(t *testing.T) {
	for _, s := range shapes() {
		for _, chip := range outside(s.chips) {
			if got := slices.Collect(Of(s.mode, chip)); len(got) != 0 {
				t.Errorf("%v: Of(%d): %v", s, chip, got)
			}
		}
	}
	for _, mode := range wrongModes() {
		for _, chip := range append(edges(), -1, 0, 1, 8, 9, 35, 36) {
			if got := slices.Collect(Of(mode, chip)); len(got) != 0 {
				t.Errorf("the mode %d: Of(%d): %v", mode, chip, got)
			}
		}
	}
}

// Of counting bytes a word's are their own places: all chips and all words have each place just once.
func TestEachByteIsOneChipsAndOneWords(t *testing.T) {
	for _, s := range shapes() {
		var ofChips, ofWords [72]int
		for chip := range s.chips {
			for at := range Of(s.mode, chip) {
				ofChips[at]++
			}
		}
		for word := range s.words {
			for chip, at := range counting().Word(s.mode, word) {
				ofWords[at]++
				if got := slices.Collect(Of(s.mode, chip)); got[word] != int(at) {
					t.Errorf("%v: the chip %d has %v, the word %d has %d", s, chip, got, word, at)
				}
			}
		}
		for at := range 72 {
			if ofChips[at] != 1 || ofWords[at] != 1 {
				t.Errorf("%v: the byte %d is of %d chips and %d words", s, at, ofChips[at], ofWords[at])
			}
		}
	}
}

// P9.2

// slowExposure counts bit by bit: unlike bits in the mode 1, bytes with one in the mode 2.
func slowExposure(s shape, a, b Raw) int {
	most := 0
	for word := range s.words {
		count := 0
		for chip := range s.chips {
			at := word*s.chips + chip
			unlike := 0
			for i := range 8 {
				if bitOf(a, 8*at+i) != bitOf(b, 8*at+i) {
					unlike++
				}
			}
			if s.mode == 2 {
				unlike = min(unlike, 1)
			}
			count += unlike
		}
		most = max(most, count)
	}
	return most
}

// checkExposure holds it against a number, in both orders.
func checkExposure(t *testing.T, mode int, a, b Raw, want int) {
	t.Helper()
	if got, back := Exposure(mode, a, b), Exposure(mode, b, a); got != want || back != want {
		t.Errorf("the mode %d: Exposure(%x, %x) = %d, %d, not %d", mode, a, b, got, back, want)
	}
}

func TestExposureByHand(t *testing.T) {
	for i, x := range []struct {
		bits        []int
		bits1, chip int
	}{
		{nil, 0, 0},
		{[]int{0}, 1, 1},
		{[]int{575}, 1, 1},
		{[]int{287}, 1, 1},
		{[]int{288}, 1, 1},
		{[]int{0, 1, 7}, 3, 1},
		{[]int{8, 9, 10, 11, 12, 13, 14, 15}, 8, 1},
		{[]int{0, 71}, 2, 2},
		{[]int{71, 72}, 1, 2},
		{[]int{0, 72, 144, 216}, 1, 4},
		{[]int{0, 72, 144, 216, 288, 360, 432, 504}, 1, 4},
		{[]int{287, 288}, 1, 1},
		{[]int{0, 288, 289, 290, 296}, 4, 2},
		{[]int{504, 512, 520, 521, 575, 0, 8}, 5, 4},
		{[]int{0, 9, 80, 81}, 2, 3},
	} {
		for _, r := range some() {
			other := r
			for _, b := range x.bits {
				other = withBit(other, b, 1-bitOf(r, b))
			}
			checkExposure(t, 1, r, other, x.bits1)
			checkExposure(t, 2, r, other, x.chip)
		}
		if t.Failed() {
			t.Fatal(i)
		}
	}
	checkExposure(t, 1, Raw{}, filled(0xFF), 72)
	checkExposure(t, 2, Raw{}, filled(0xFF), 36)
	checkExposure(t, 1, Raw{}, filled(0x80), 9)
	checkExposure(t, 2, Raw{}, filled(0x80), 36)
}

func TestExposure(t *testing.T) {
	all := some()
	for _, s := range shapes() {
		for _, a := range all {
			checkExposure(t, s.mode, a, a, 0)
			for _, b := range all {
				checkExposure(t, s.mode, a, b, slowExposure(s, a, b))
			}
		}
	}
}

// Each word in turn is the one in which it is greatest.
func TestExposureOfEachWord(t *testing.T) {
	for _, s := range shapes() {
		for word := range s.words {
			a := counting()
			for n := 0; n <= s.chips; n++ {
				b := a
				for other := range s.words {
					b[other*s.chips] ^= 0x10
				}
				for chip := range n {
					b[word*s.chips+chip] = a[word*s.chips+chip] ^ 0x10
				}
				checkExposure(t, s.mode, a, b, max(n, 1))
			}
		}
	}
}

// Each bit alone exposes by 1.
func TestExposureOfEachBit(t *testing.T) {
	for _, s := range shapes() {
		for i := range 576 {
			a := counting()
			checkExposure(t, s.mode, a, withBit(a, i, 1-bitOf(a, i)), 1)
		}
	}
}

func TestExposureOfNoMode(t *testing.T) {
	for _, mode := range wrongModes() {
		checkExposure(t, mode, Raw{}, filled(0xFF), 0)
		checkExposure(t, mode, counting(), counting(), 0)
	}
}

func TestFlip(t *testing.T) {
	for _, r := range some() {
		before := r
		for i := range 576 {
			want := withBit(r, i, 1-bitOf(r, i))
			got := r.Flip(i)
			if got != want || got == r || r != before {
				t.Fatalf("%x: Flip(%d) = %x", r, i, got)
			}
			if back := got.Flip(i); back != r {
				t.Fatalf("%x: turned twice by %d: %x", r, i, back)
			}
		}
	}
	if got := (Raw{}).Flip(9); got != (Raw{1: 2}) {
		t.Error(got)
	}
	if got := (Raw{}).Flip(575); got != (Raw{71: 0x80}) {
		t.Error(got)
	}
}

func TestForce(t *testing.T) {
	values := []struct{ value, lowest int }{
		{0, 0}, {1, 1}, {2, 0}, {3, 1}, {254, 0}, {255, 1}, {256, 0}, {257, 1}, {1 << 32, 0}, {1<<32 + 1, 1}, {math.MaxInt - 1, 0}, {math.MaxInt, 1},
		{-1, 1}, {-2, 0}, {-3, 1}, {-256, 0}, {-255, 1}, {math.MinInt, 0}, {math.MinInt + 1, 1},
	}
	for _, r := range some() {
		before := r
		for i := range 576 {
			for _, x := range values {
				got := r.Force(i, x.value)
				if got != withBit(r, i, x.lowest) || r != before {
					t.Fatalf("%x: Force(%d, %d) = %x", r, i, x.value, got)
				}
			}
		}
	}
}

func TestNoBit(t *testing.T) {
	for _, r := range some() {
		for _, i := range append(outside(576), -7, -8, -9, -575, 583, 584, 4608) {
			if got := r.Flip(i); got != r {
				t.Errorf("%x: Flip(%d) = %x", r, i, got)
			}
			for _, value := range []int{0, 1, 2, -1, -2, math.MaxInt, math.MinInt} {
				if got := r.Force(i, value); got != r {
					t.Errorf("%x: Force(%d, %d) = %x", r, i, value, got)
				}
			}
		}
	}
}

func TestChip(t *testing.T) {
	for _, s := range shapes() {
		for _, r := range some() {
			before := r
			for chip := range s.chips {
				for _, value := range []byte{0, 1, 0x80, 0xA5, 0xFF} {
					want := r
					for _, at := range places(s, chip) {
						want[at] = value
					}
					if got := r.Chip(s.mode, chip, value); got != want || r != before {
						t.Fatalf("%v: Chip(%d, %d) = %x, not %x", s, chip, value, got, want)
					}
				}
			}
		}
	}
	if got := (Raw{}).Chip(Chips, 35, 9); got != (Raw{35: 9, 71: 9}) {
		t.Error(got)
	}
}

func TestNoChip(t *testing.T) {
	r := counting()
	for _, value := range []byte{0, 1, 0xFF} {
		for _, s := range shapes() {
			for _, chip := range outside(s.chips) {
				if got := r.Chip(s.mode, chip, value); got != r {
					t.Errorf("%v: Chip(%d, %d) = %x", s, chip, value, got)
				}
			}
		}
		for _, mode := range wrongModes() {
			for _, chip := range append(edges(), -1, 0, 1, 8, 9, 35, 36) {
				if got := r.Chip(mode, chip, value); got != r {
					t.Errorf("the mode %d: Chip(%d, %d) = %x", mode, chip, value, got)
				}
			}
		}
	}
}

// Bits are counted through words, chips and the bits of a byte, the last of which changes first.
func TestWhose(t *testing.T) {
	for _, s := range shapes() {
		i := 0
		for word := range s.words {
			for chip := range s.chips {
				for range 8 {
					if gotWord, gotChip, e := Whose(s.mode, i); gotWord != word || gotChip != chip || e != api.OK {
						t.Errorf("%v: Whose(%d) = %d, %d, %d", s, i, gotWord, gotChip, e)
					}
					i++
				}
			}
		}
		if i != 576 {
			t.Error(s, i)
		}
	}
}

func TestWhoseOfNone(t *testing.T) {
	check := func(mode, i int) {
		if word, chip, e := Whose(mode, i); word != 0 || chip != 0 || e != api.ErrRange {
			t.Errorf("the mode %d: Whose(%d) = %d, %d, %d", mode, i, word, chip, e)
		}
	}
	for _, s := range shapes() {
		for _, i := range append(outside(576), -7, -8, -9, -575, 583, 584, 4608) {
			check(s.mode, i)
		}
	}
	for _, mode := range wrongModes() {
		for _, i := range append(edges(), -1, 0, 1, 8, 300, 575, 576) {
			check(mode, i)
		}
	}
}

// A turned bit is seen in its own word and chip alone.
func TestFlipIsSeenWhereWhoseTells(t *testing.T) {
	r := counting()
	for _, s := range shapes() {
		for i := range 576 {
			word, chip, _ := Whose(s.mode, i)
			turned := r.Flip(i)
			for other := range s.words {
				if same := bytes.Equal(turned.Word(s.mode, other), r.Word(s.mode, other)); same != (other != word) {
					t.Fatalf("%v: the bit %d and the word %d", s, i, other)
				}
			}
			if turned == r || turned.Chip(s.mode, chip, 3) != r.Chip(s.mode, chip, 3) {
				t.Fatalf("%v: the bit %d and the chip %d", s, i, chip)
			}
		}
	}
}

// P1: whatever the numbers, every call ends, none panics, and they agree with one another.
func FuzzRaw(f *testing.F) {
	f.Add(1, 7, 8, 575, 1, []byte("some bytes"))
	f.Add(2, 1, 35, 300, -2, []byte{})
	f.Add(2, 2, 36, 576, 2, make([]byte, 36))
	f.Add(1, -1, 9, -1, 0, make([]byte, 9))
	f.Add(3, 0, 0, 0, math.MinInt, make([]byte, 200))
	f.Add(math.MaxInt, math.MinInt, math.MaxInt, math.MinInt, math.MaxInt, []byte{1})
	f.Fuzz(func(t *testing.T, mode, word, chip, i, value int, b []byte) {
		r := counting()
		s := shape{mode, 0, 0}
		for _, right := range shapes() {
			if right.mode == mode {
				s = right
			}
		}
		hasWord, hasChip, hasBit := word >= 0 && word < s.words, chip >= 0 && chip < s.chips, i >= 0 && i < 576
		if Right(mode) != (s.words > 0) || CountWords(mode) != s.words || CountChips(mode) != s.chips {
			t.Fatal(mode, Right(mode), CountWords(mode), CountChips(mode))
		}
		put := r.Put(mode, word, b)
		if hasWord && len(b) == s.chips {
			if !bytes.Equal(put.Word(mode, word), b) {
				t.Fatal(mode, word, put)
			}
		} else if put != r {
			t.Fatal(mode, word, put)
		}
		if got := slices.Collect(Of(mode, chip)); !slices.Equal(got, places(s, chip)) || hasChip != (len(got) > 0) {
			t.Fatal(mode, chip, got)
		}
		if hasWord != (len(r.Word(mode, word)) > 0) {
			t.Fatal(mode, word)
		}
		flipped, forced, covered := r.Flip(i), r.Force(i, value), r.Chip(mode, chip, byte(value))
		if hasBit && (bitOf(flipped, i) == bitOf(r, i) || bitOf(forced, i) != value&1) || !hasBit && (flipped != r || forced != r) {
			t.Fatal(i, value, flipped, forced)
		}
		for _, other := range []Raw{put, flipped, forced, covered} {
			checkExposure(t, mode, r, other, slowExposure(s, r, other))
		}
		gotWord, gotChip, e := Whose(mode, i)
		if right := s.words > 0 && hasBit; right != (e == api.OK) || right && gotWord*s.chips+gotChip != i/8 || !right && (gotWord != 0 || gotChip != 0 || e != api.ErrRange) {
			t.Fatal(mode, i, gotWord, gotChip, e)
		}
	})
}

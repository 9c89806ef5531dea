package codec

import (
	"math"
	"slices"
	"testing"

	"cuirass/gf"
	"cuirass/hsiao"
	"cuirass/line"
	"cuirass/raw"
	"cuirass/rs"
)

// modes are both modes, by the document's numbers.
func modes() []int { return []int{1, 2} }

// wrongModes are numbers that no mode has.
func wrongModes() []int {
	return []int{0, 3, 4, 8, 9, 36, -1, -2, -3, 256, 257, 258, 1 << 32, 1<<32 + 1, 1<<32 + 2, math.MaxInt32, math.MinInt32, math.MaxInt - 1, math.MaxInt, math.MinInt, math.MinInt + 1, math.MinInt + 2}
}

// filled is a line with all bytes alike.
func filled(x byte) (l line.Line) {
	for i := range l {
		l[i] = x
	}
	return l
}

// counting is a line with each byte another one, and none of them a nought.
func counting() (l line.Line) {
	for i := range l {
		l[i] = byte(3*i + 1)
	}
	return l
}

// chance tells numbers that follow no simple rule, the same ones in each run.
type chance uint64

func (c *chance) below(n int) int {
	*c = *c*6364136223846793005 + 1442695040888963407
	return int(uint64(*c)>>33) % n
}

func (c *chance) line() (l line.Line) {
	for i := range l {
		l[i] = byte(c.below(256))
	}
	return l
}

// lines are one of noughts, one of ones, one with each byte another one, and some that follow no simple rule.
func lines() []line.Line {
	told := []line.Line{{}, filled(0xFF), filled(0x5A), counting()}
	c := chance(10)
	for range 4 {
		told = append(told, c.line())
	}
	return told
}

// indices are such as geometries have, and such as none has, up to the edges of int.
func indices() []int {
	return []int{
		0, 1, 2, 3, 0x40, 0xFF, 0x100, 0x8000, 0x10000, 0x2ABCDE, 1 << 22, 1<<22 | 1, 0x7F0000, 1<<23 - 2, 1<<23 - 1,
		1 << 23, 1<<23 | 1, 1<<24 - 1, 1 << 31, 1<<32 | 7, math.MaxInt - 1, math.MaxInt,
		-1, -2, -(1 << 22), -(1 << 23), -(1 << 23) - 1, math.MinInt32, math.MinInt, math.MinInt + 1,
	}
}

// lowest is what the 23 lowest bits of an index are worth.
func lowest(index int) int {
	const all = 8388608
	return (index%all + all) % all
}

// oddness is 1, if the 23 lowest bits of an index have an odd number of ones.
func oddness(index int) int {
	odd := 0
	for n := lowest(index); n > 0; n /= 2 {
		odd = (odd + n) % 2
	}
	return odd
}

// number is what 8 bytes are worth, the lowest first.
func number(b []byte) uint64 {
	n := uint64(0)
	for i := 7; i >= 0; i-- {
		n = 256*n + uint64(b[i])
	}
	return n
}

// virtual are the virtual symbols of an index.
func virtual(index int, poison bool) [3]byte {
	low := lowest(index)
	third := low / 65536
	if poison {
		third += 128
	}
	return [3]byte{byte(low % 256), byte(low / 256 % 256), byte(third)}
}

// slowEncode puts each byte into its place, out of the codes.
func slowEncode(mode int, l line.Line, index int, poison bool) (r raw.Raw) {
	if mode == 1 {
		code, poisonBit := hsiao.New(), 0
		if poison {
			poisonBit = 1
		}
		for w := range 8 {
			for chip := range 8 {
				r[9*w+chip] = l[8*w+chip]
			}
			r[9*w+8] = code.Check(number(l[8*w:]), oddness(index), poisonBit)
		}
	}
	if mode == 2 {
		code := rs.New(gf.New())
		for k := range 2 {
			var data [32]byte
			for i := range data {
				data[i] = l[32*k+i]
				r[36*k+4+i] = data[i]
			}
			for i, check := range code.Checks(data, virtual(index, poison)) {
				r[36*k+i] = check
			}
		}
	}
	return r
}

// words are the verdicts of a line's words by their codes, and the line of the words' data.
func words(mode int, r raw.Raw, index int) (l line.Line, kinds []string) {
	if mode == 1 {
		code := hsiao.New()
		names := map[int]string{hsiao.Clean: "clean", hsiao.Fixed: "fixed", hsiao.Poisoned: "poisoned", hsiao.Astray: "lost", hsiao.Lost: "lost"}
		for w := range 8 {
			data, kind, _ := code.Decode(number(r[9*w:9*w+8]), r[9*w+8], oddness(index))
			for i := range 8 {
				l[8*w+i] = byte(data % 256)
				data /= 256
			}
			kinds = append(kinds, names[kind])
		}
		return l, kinds
	}
	code := rs.New(gf.New())
	for k := range 2 {
		var word [36]byte
		for i := range word {
			word[i] = r[36*k+i]
		}
		data, v := code.Decode(word, virtual(index, false))
		for i := range data {
			l[32*k+i] = data[i]
		}
		name := "lost"
		if v.Kind == rs.Clean {
			name = "clean"
		}
		if v.Kind == rs.Fixed {
			name = "fixed"
		}
		if v.Kind == rs.Virtual && v.Place == 38 && v.Value == 128 {
			name = "poisoned"
		}
		kinds = append(kinds, name)
	}
	return l, kinds
}

// verdictOf is the first of the document's table that is so.
func verdictOf(kinds []string) Verdict {
	fixes := 0
	for _, kind := range kinds {
		if kind == "fixed" {
			fixes++
		}
	}
	switch {
	case slices.Contains(kinds, "lost"):
		return Verdict{Kind: 3}
	case slices.Contains(kinds, "poisoned"):
		return Verdict{Kind: 2}
	case fixes > 0:
		return Verdict{Kind: 1, Fixes: fixes}
	default:
		return Verdict{}
	}
}

// slowDecode puts together what the codes tell of the words.
func slowDecode(mode int, r raw.Raw, index int) (line.Line, Verdict) {
	if mode != 1 && mode != 2 {
		return line.Line{}, Verdict{Kind: 3}
	}
	l, kinds := words(mode, r, index)
	verdict := verdictOf(kinds)
	if verdict.Kind > 1 {
		l = line.Line{}
	}
	return l, verdict
}

// check holds what is decoded against a line and a verdict.
func check(t *testing.T, c *Codec, mode int, r raw.Raw, index int, want line.Line, verdict Verdict) {
	t.Helper()
	if l, v := c.Decode(mode, r, index); l != want || v != verdict {
		t.Fatalf("the mode %d, the index %d: Decode(%x) = %x, %v, not %x, %v", mode, index, r, l, v, want, verdict)
	}
}

// checkDead holds that no line is told: that it is Lost or Poisoned.
func checkDead(t *testing.T, c *Codec, mode int, r raw.Raw, index int) {
	t.Helper()
	l, v := c.Decode(mode, r, index)
	if l != (line.Line{}) || v != (Verdict{Kind: 2}) && v != (Verdict{Kind: 3}) {
		t.Fatalf("the mode %d, the index %d: Decode(%x) = %x, %v", mode, index, r, l, v)
	}
}

// turned is r with bits turned, by adding or taking off what they stand for.
func turned(r raw.Raw, places ...int) raw.Raw {
	for _, i := range places {
		stands := byte(1)
		for range i % 8 {
			stands *= 2
		}
		if r[i/8]/stands%2 == 1 {
			r[i/8] -= stands
		} else {
			r[i/8] += stands
		}
	}
	return r
}

// P10.1

func TestVerdicts(t *testing.T) {
	if Clean != 0 || Fixed != 1 || Poisoned != 2 || Lost != 3 {
		t.Error(Clean, Fixed, Poisoned, Lost)
	}
	if c := New(); c == nil || c == New() {
		t.Error(c)
	}
}

func TestEncode(t *testing.T) {
	c := New()
	for _, mode := range modes() {
		for _, l := range lines() {
			for _, index := range indices() {
				for _, poison := range []bool{false, true} {
					if got, want := c.Encode(mode, l, index, poison), slowEncode(mode, l, index, poison); got != want {
						t.Fatalf("Encode(%d, %x, %d, %t) = %x, not %x", mode, l, index, poison, got, want)
					}
				}
			}
		}
	}
}

// What the columns and the generator tell without a code: the columns with five ones are 1F, 2F, 37, 3B, 3D, 3E, 4F, 57, 5B (the address's) and 5D (the poison's), and 64, 120, 54, 15, 1 is a code word wherever it stands.
func TestEncodeByHand(t *testing.T) {
	c := New()
	for i, x := range []struct {
		mode   int
		l      line.Line
		index  int
		poison bool
		want   raw.Raw
	}{
		{1, line.Line{0: 1}, 0, false, raw.Raw{0: 1, 8: 0x07}},
		{1, line.Line{7: 0x80}, 0, false, raw.Raw{7: 0x80, 8: 0x57}},
		{1, line.Line{8: 2, 63: 0x80}, 0, false, raw.Raw{9: 2, 17: 0x0B, 70: 0x80, 71: 0x57}},
		{1, line.Line{40: 1}, 3, false, raw.Raw{45: 1, 53: 0x07}},
		{1, line.Line{}, 1, false, raw.Raw{8: 0x5B, 17: 0x5B, 26: 0x5B, 35: 0x5B, 44: 0x5B, 53: 0x5B, 62: 0x5B, 71: 0x5B}},
		{1, line.Line{}, 0, true, raw.Raw{8: 0x5D, 17: 0x5D, 26: 0x5D, 35: 0x5D, 44: 0x5D, 53: 0x5D, 62: 0x5D, 71: 0x5D}},
		{1, line.Line{}, 4, true, raw.Raw{8: 6, 17: 6, 26: 6, 35: 6, 44: 6, 53: 6, 62: 6, 71: 6}},
		{2, line.Line{0: 1}, 0, false, raw.Raw{0: 64, 1: 120, 2: 54, 3: 15, 4: 1}},
		{2, line.Line{32: 1}, 0, false, raw.Raw{36: 64, 37: 120, 38: 54, 39: 15, 40: 1}},
		{2, line.Line{0: 15, 1: 1}, 0, false, raw.Raw{1: 64, 2: 120, 3: 54, 4: 15, 5: 1}},
		{2, line.Line{27: 64, 28: 120, 29: 54, 30: 15, 31: 1}, 0, false, raw.Raw{31: 64, 32: 120, 33: 54, 34: 15, 35: 1}},
		{2, line.Line{28: 64, 29: 120, 30: 54, 31: 15, 60: 64, 61: 120, 62: 54, 63: 15}, 1, false, raw.Raw{32: 64, 33: 120, 34: 54, 35: 15, 68: 64, 69: 120, 70: 54, 71: 15}},
		{2, line.Line{29: 64, 30: 120, 31: 54, 61: 64, 62: 120, 63: 54}, 0x10F, false, raw.Raw{33: 64, 34: 120, 35: 54, 69: 64, 70: 120, 71: 54}},
		{2, line.Line{30: 64, 31: 120, 62: 64, 63: 120}, 0x010F36, false, raw.Raw{34: 64, 35: 120, 70: 64, 71: 120}},
	} {
		if got := c.Encode(x.mode, x.l, x.index, x.poison); got != x.want {
			t.Errorf("%d: %x, not %x", i, got, x.want)
		}
	}
}

// Which chip has what, bit by bit: a bit of data is a bit of one chip, and of the checks of its word alone.
func TestWhereDataStand(t *testing.T) {
	c := New()
	base := map[int]raw.Raw{1: c.Encode(1, counting(), 77, false), 2: c.Encode(2, counting(), 77, false)}
	for at := range 64 {
		l := counting()
		l[at] ^= 0x10
		bits, chips := c.Encode(1, l, 77, false), c.Encode(2, l, 77, false)
		for i := range 72 {
			inBits := i == at/8*9+at%8 || i == at/8*9+8
			inChips := i == at/32*36+4+at%32 || i/36 == at/32 && i%36 < 4
			if inBits != (bits[i] != base[1][i]) || inChips != (chips[i] != base[2][i]) {
				t.Fatal(at, i, bits, chips)
			}
		}
	}
}

func TestJust23BitsCount(t *testing.T) {
	c := New()
	for _, mode := range modes() {
		for _, index := range indices() {
			for _, l := range lines()[:4] {
				want := c.Encode(mode, l, lowest(index), false)
				if got := c.Encode(mode, l, index, false); got != want {
					t.Fatal(mode, index, got)
				}
				for _, high := range []int{1 << 23, 1 << 24, 3 << 23, 1 << 31, 1 << 40, 1 << 62, math.MinInt, -(1 << 23)} {
					if got := c.Encode(mode, l, index^high, false); got != want {
						t.Fatal(mode, index, high, got)
					}
					check(t, c, mode, want, index^high, l, Verdict{})
				}
			}
		}
		// Each of the 23 counts.
		for k := range 23 {
			if a, b := c.Encode(mode, counting(), 0, false), c.Encode(mode, counting(), 1<<k, false); a == b {
				t.Error(mode, k)
			}
		}
	}
}

func TestPoisonedForAnyIndex(t *testing.T) {
	c := New()
	for _, mode := range modes() {
		for _, index := range indices() {
			for _, l := range lines() {
				r := c.Encode(mode, l, index, true)
				if r == c.Encode(mode, l, index, false) {
					t.Fatal(mode, index, r)
				}
				check(t, c, mode, r, index, line.Line{}, Verdict{Kind: Poisoned})
				check(t, c, mode, r, lowest(index), line.Line{}, Verdict{Kind: Poisoned})
			}
		}
	}
}

// sorts are ways in which a word comes out, by the verdict that the document gives it.
type sort struct {
	name string
	make func(c *Codec, mode, word int, l line.Line, index int, n *chance) raw.Raw
}

// wordBits is how many bits a word has in a mode.
func wordBits(mode int) int {
	return map[int]int{1: 72, 2: 288}[mode]
}

// inWord are some bits of a word, no two of them of one chip.
func inWord(mode, word, count int, n *chance) (told []int) {
	var chips []int
	for len(told) < count {
		i := n.below(wordBits(mode))
		if !slices.Contains(chips, i/8) {
			chips = append(chips, i/8)
			told = append(told, word*wordBits(mode)+i)
		}
	}
	return told
}

func sorts() []sort {
	return []sort{
		{"clean", func(c *Codec, mode, word int, l line.Line, index int, n *chance) raw.Raw {
			return c.Encode(mode, l, index, false)
		}},
		{"fixed", func(c *Codec, mode, word int, l line.Line, index int, n *chance) raw.Raw {
			return turned(c.Encode(mode, l, index, false), inWord(mode, word, 1, n)...)
		}},
		{"poisoned", func(c *Codec, mode, word int, l line.Line, index int, n *chance) raw.Raw {
			return c.Encode(mode, l, index, true)
		}},
		{"lost", func(c *Codec, mode, word int, l line.Line, index int, n *chance) raw.Raw {
			return turned(c.Encode(mode, l, index, false), inWord(mode, word, 2, n)...)
		}},
		{"lost", func(c *Codec, mode, word int, l line.Line, index int, n *chance) raw.Raw {
			return turned(c.Encode(mode, l, index, true), inWord(mode, word, 1, n)...)
		}},
		// Of another index: Astray in the mode 1, and one virtual symbol in the mode 2.
		{"lost", func(c *Codec, mode, word int, l line.Line, index int, n *chance) raw.Raw {
			return c.Encode(mode, l, index^1<<n.below(23), false)
		}},
		{"lost", func(c *Codec, mode, word int, l line.Line, index int, n *chance) raw.Raw {
			return c.Encode(mode, l, index^1<<n.below(23), true)
		}},
	}
}

// mixed is a line's raw bytes with each word of a sort of its own, and the verdicts of these.
func mixed(c *Codec, mode int, l line.Line, index int, n *chance, chosen []int) (r raw.Raw, kinds []string) {
	all := sorts()
	for w, which := range chosen {
		from := all[which].make(c, mode, w, l, index, n)
		first, end := w*wordBits(mode)/8, (w+1)*wordBits(mode)/8
		copy(r[first:end], from[first:end])
		kinds = append(kinds, all[which].name)
	}
	return r, kinds
}

// checkMixed holds such raw bytes against the table.
func checkMixed(t *testing.T, c *Codec, mode int, l line.Line, index int, n *chance, chosen []int) {
	t.Helper()
	r, kinds := mixed(c, mode, l, index, n, chosen)
	want := verdictOf(kinds)
	if _, told := words(mode, r, index); !slices.Equal(told, kinds) {
		t.Fatalf("the mode %d: %v, not %v", mode, told, kinds)
	}
	if want.Kind > 1 {
		l = line.Line{}
	}
	check(t, c, mode, r, index, l, want)
}

// Each two words of a line are of each two sorts, whichever comes first.
func TestDecodeByEachTwoWords(t *testing.T) {
	c, n := New(), chance(3)
	for _, mode := range modes() {
		count := map[int]int{1: 8, 2: 2}[mode]
		for _, rest := range []int{0, 1} {
			for a := range count {
				for b := range count {
					for first := range sorts() {
						for second := range sorts() {
							chosen := slices.Repeat([]int{rest}, count)
							chosen[a], chosen[b] = first, second
							checkMixed(t, c, mode, n.line(), n.below(1<<23), &n, chosen)
						}
					}
				}
			}
		}
	}
}

func TestDecodeByAllWords(t *testing.T) {
	c, n := New(), chance(4)
	for _, mode := range modes() {
		count := map[int]int{1: 8, 2: 2}[mode]
		for _, most := range []int{1, 2, 3, len(sorts())} {
			for range 500 {
				var chosen []int
				for range count {
					chosen = append(chosen, n.below(most))
				}
				checkMixed(t, c, mode, n.line(), n.below(1<<23), &n, chosen)
			}
		}
	}
}

// Fixes counts words, however many of them are Fixed, and nothing where the verdict is another one.
func TestFixes(t *testing.T) {
	c, n := New(), chance(5)
	l, index := counting(), 0x12345
	for _, mode := range modes() {
		count := map[int]int{1: 8, 2: 2}[mode]
		r := c.Encode(mode, l, index, false)
		for fixes := range count + 1 {
			want := Verdict{Kind: Fixed, Fixes: fixes}
			if fixes == 0 {
				want = Verdict{}
			}
			check(t, c, mode, r, index, l, want)
			if fixes < count {
				r = turned(r, inWord(mode, fixes, 1, &n)...)
			}
		}
		// All but one are Fixed, and that one isn't.
		for which, sort := range sorts() {
			if sort.name == "lost" || sort.name == "poisoned" {
				chosen := slices.Repeat([]int{1}, count)
				chosen[count-1] = which
				checkMixed(t, c, mode, l, index, &n, chosen)
			}
		}
	}
}

func TestDecodeOfAnyRawBytes(t *testing.T) {
	c, n := New(), chance(6)
	all := []raw.Raw{{}, {0: 1}, {8: 1}, {71: 0x80}}
	for range 200 {
		var r raw.Raw
		for i := range r {
			r[i] = byte(n.below(256))
		}
		all = append(all, r, r.Chip(1, n.below(9), 0), r.Chip(2, n.below(36), 0xFF))
	}
	for _, r := range all {
		for _, mode := range modes() {
			for _, index := range []int{0, 1, n.below(1 << 23), -1, math.MinInt, math.MaxInt} {
				want, verdict := slowDecode(mode, r, index)
				check(t, c, mode, r, index, want, verdict)
			}
		}
	}
}

// Words of each verdict of layer 4: each syndrome, in each word.
func TestDecodeOfEachSyndrome(t *testing.T) {
	c := New()
	l := counting()
	for _, index := range []int{0, 1} {
		r := c.Encode(1, l, index, false)
		for w := range 8 {
			for syndrome := range 256 {
				other := r
				other[9*w+8] ^= byte(syndrome)
				want, verdict := slowDecode(1, other, index)
				check(t, c, 1, other, index, want, verdict)
			}
		}
	}
}

// Each virtual symbol as each other value: just one of them is the poison.
func TestDecodeOfEachVirtualSymbol(t *testing.T) {
	c, code := New(), rs.New(gf.New())
	l, index := counting(), 0x4321AB
	for k := range 2 {
		for place := range 3 {
			for value := 1; value < 256; value++ {
				r := c.Encode(2, l, index, false)
				symbols := virtual(index, false)
				symbols[place] ^= byte(value)
				var data [32]byte
				copy(data[:], l[32*k:])
				for i, x := range code.Checks(data, symbols) {
					r[36*k+i] = x
				}
				want := Verdict{Kind: Lost}
				if place == 2 && value == 0x80 {
					want.Kind = Poisoned
				}
				check(t, c, 2, r, index, line.Line{}, want)
			}
		}
	}
}

func TestNoMode(t *testing.T) {
	c := New()
	for _, mode := range wrongModes() {
		for _, l := range lines() {
			for _, index := range []int{0, 5, -1, math.MinInt, math.MaxInt} {
				if got := c.Encode(mode, l, index, false); got != (raw.Raw{}) {
					t.Error(mode, got)
				}
				if got := c.Encode(mode, l, index, true); got != (raw.Raw{}) {
					t.Error(mode, got)
				}
				for _, made := range modes() {
					check(t, c, mode, c.Encode(made, l, index, false), index, line.Line{}, Verdict{Kind: Lost})
					check(t, c, mode, c.Encode(made, l, index, true), index, line.Line{}, Verdict{Kind: Lost})
				}
			}
		}
		check(t, c, mode, raw.Raw{}, 0, line.Line{}, Verdict{Kind: Lost})
	}
}

// What was told and handed in is written to; nothing behind changes, of that codec nor of another one.
func TestMemory(t *testing.T) {
	c, other := New(), New()
	for _, mode := range modes() {
		l := counting()
		r := c.Encode(mode, l, 9, false)
		want, turnedOnce := r, turned(r, 100)
		for i := range l {
			l[i] = 0xEE
		}
		for i := range r {
			r[i] = 0xEE
		}
		check(t, c, mode, want, 9, counting(), Verdict{})
		got, _ := c.Decode(mode, turnedOnce, 9)
		for i := range got {
			got[i] = 0xEE
		}
		check(t, c, mode, turnedOnce, 9, counting(), Verdict{Kind: Fixed, Fixes: 1})
		if again := c.Encode(mode, counting(), 9, false); again != want || other.Encode(mode, counting(), 9, false) != want {
			t.Error(mode, again)
		}
		if turnedOnce != turned(want, 100) {
			t.Error(mode, turnedOnce)
		}
	}
}

// A codec keeps nothing of what it was asked.
func TestNothingIsKept(t *testing.T) {
	c := New()
	first := c.Encode(1, counting(), 5, false)
	c.Encode(1, filled(9), 6, true)
	c.Decode(2, c.Encode(2, filled(7), 8, true), 4)
	if c.Encode(1, counting(), 5, false) != first {
		t.Error(first)
	}
	check(t, c, 1, first, 5, counting(), Verdict{})
}

// Words come as far as they are asked, and again when they are asked again.
func TestWordsAsFarAsAsked(t *testing.T) {
	r := New().Encode(1, counting(), 3, false)
	for _, mode := range modes() {
		count := map[int]int{1: 8, 2: 2}[mode]
		come := wordsOf(mode, r)
		for most := 1; most <= count; most++ {
			for range 2 {
				seen := 0
				for w, b := range come {
					if w != seen || !slices.Equal(b, r.Word(mode, w)) {
						t.Error(mode, w, b)
					}
					b[0]++
					if seen++; seen == most {
						break
					}
				}
				if seen != most {
					t.Error(mode, seen, most)
				}
			}
		}
	}
	for w := range wordsOf(0, r) {
		t.Error(w)
	}
}

// Any number of verdicts is put together, in any order.
func TestTogether(t *testing.T) {
	for i, x := range []struct {
		kinds []int
		want  Verdict
	}{
		{nil, Verdict{}},
		{[]int{Clean}, Verdict{}},
		{[]int{Fixed}, Verdict{Fixed, 1}},
		{[]int{Poisoned}, Verdict{Poisoned, 0}},
		{[]int{Lost}, Verdict{Lost, 0}},
		{[]int{Clean, Fixed, Clean, Fixed, Fixed}, Verdict{Fixed, 3}},
		{[]int{Fixed, Poisoned, Fixed}, Verdict{Poisoned, 0}},
		{[]int{Poisoned, Clean}, Verdict{Poisoned, 0}},
		{[]int{Lost, Poisoned, Fixed, Clean}, Verdict{Lost, 0}},
		{[]int{Clean, Fixed, Poisoned, Lost}, Verdict{Lost, 0}},
	} {
		if got := together(x.kinds...); got != x.want {
			t.Error(i, got)
		}
	}
}

// P10.2

func TestWhatWasEncodedIsDecoded(t *testing.T) {
	c := New()
	for _, mode := range modes() {
		for _, l := range lines() {
			for _, index := range indices() {
				check(t, c, mode, c.Encode(mode, l, index, false), index, l, Verdict{})
				check(t, c, mode, c.Encode(mode, l, index, true), index, line.Line{}, Verdict{Kind: Poisoned})
			}
		}
	}
}

func TestEachBitTurned(t *testing.T) {
	c := New()
	for _, mode := range modes() {
		for _, l := range lines() {
			for _, index := range []int{0, 1, 0x2ABCDE, 1<<23 - 1, -1} {
				r := c.Encode(mode, l, index, false)
				for i := range 576 {
					check(t, c, mode, turned(r, i), index, l, Verdict{Kind: Fixed, Fixes: 1})
				}
			}
		}
	}
}

// Any two bits: Lost, where they expose a word by two, and else told.
func TestTwoBitsTurned(t *testing.T) {
	c := New()
	l, index := lines()[5], 0x2ABCDE
	for _, mode := range modes() {
		r := c.Encode(mode, l, index, false)
		for a := range 576 {
			// All others of its word, and some of the others.
			for b := range 576 {
				sameWord, sameChip := a/wordBits(mode) == b/wordBits(mode), a/8 == b/8
				if a == b || !sameWord && (a+b)%41 != 0 || mode == 2 && (a+b)%7 != 0 {
					continue
				}
				want, verdict := l, Verdict{Kind: Fixed, Fixes: 2}
				switch {
				case sameWord && mode == 2 && sameChip:
					verdict.Fixes = 1
				case sameWord:
					want, verdict = line.Line{}, Verdict{Kind: Lost}
				}
				check(t, c, mode, turned(r, a, b), index, want, verdict)
			}
		}
	}
}

// One bit of each word: all are told; and two of one of them beside.
func TestBitsOfSeveralWordsTurned(t *testing.T) {
	c, n := New(), chance(7)
	for _, mode := range modes() {
		count := map[int]int{1: 8, 2: 2}[mode]
		for range 300 {
			l, index := n.line(), n.below(1<<23)
			r := c.Encode(mode, l, index, false)
			for w := range count {
				r = turned(r, inWord(mode, w, 1, &n)...)
			}
			check(t, c, mode, r, index, l, Verdict{Kind: Fixed, Fixes: count})
			for w := range count {
				dead := c.Encode(mode, l, index, false)
				for other := range count {
					turns := 1
					if other == w {
						turns = 2
					}
					dead = turned(dead, inWord(mode, other, turns, &n)...)
				}
				check(t, c, mode, dead, index, line.Line{}, Verdict{Kind: Lost})
			}
		}
	}
}

// Where three bits and more of a word are turned in the mode 1, it is told what the word's verdict makes of it.
func TestManyBitsTurned(t *testing.T) {
	c, n := New(), chance(8)
	for range 2000 {
		l, index := n.line(), n.below(1<<23)
		for _, mode := range modes() {
			r := c.Encode(mode, l, index, n.below(2) == 1)
			for range 3 + n.below(6) {
				r = turned(r, n.below(576))
			}
			want, verdict := slowDecode(mode, r, index)
			check(t, c, mode, r, index, want, verdict)
		}
	}
}

// Each symbol as each other value.
func TestEachSymbolReplaced(t *testing.T) {
	c := New()
	for _, l := range lines()[2:5] {
		for _, index := range []int{0, 0x7EDCBA} {
			r := c.Encode(2, l, index, false)
			for at := range 72 {
				for value := 1; value < 256; value++ {
					other := r
					other[at] ^= byte(value)
					check(t, c, 2, other, index, l, Verdict{Kind: Fixed, Fixes: 1})
				}
			}
		}
	}
}

// replaced is r with some symbols of a word as other ones.
func replaced(r raw.Raw, word, count int, n *chance) raw.Raw {
	for _, i := range inWord(2, word, count, n) {
		r[i/8] ^= byte(1 + n.below(255))
	}
	return r
}

func TestSymbolsReplaced(t *testing.T) {
	c, n := New(), chance(9)
	for range 1000 {
		l, index := n.line(), n.below(1<<23)
		r := c.Encode(2, l, index, false)
		check(t, c, 2, replaced(replaced(r, 0, 1, &n), 1, 1, &n), index, l, Verdict{Kind: Fixed, Fixes: 2})
		for word := range 2 {
			for beside := range 3 {
				for _, count := range []int{2, 3} {
					other := replaced(replaced(r, word, count, &n), 1-word, beside, &n)
					check(t, c, 2, other, index, line.Line{}, Verdict{Kind: Lost})
				}
			}
		}
	}
}

// Each two symbols of a word.
func TestEachTwoSymbolsReplaced(t *testing.T) {
	c := New()
	l := lines()[6]
	r := c.Encode(2, l, 0x2ABCDE, false)
	for word := range 2 {
		for a := range 36 {
			for b := range a {
				other := r
				other[36*word+a] ^= 0x80
				other[36*word+b] ^= 0x80
				check(t, c, 2, other, 0x2ABCDE, line.Line{}, Verdict{Kind: Lost})
			}
		}
	}
}

// A chip of 36 that tells one byte alone is corrected, and one of 9 where it exposes by one bit.
func TestAChipSet(t *testing.T) {
	c := New()
	for _, l := range lines() {
		index := 0x2ABCDE
		chips := c.Encode(2, l, index, false)
		bits := c.Encode(1, l, index, false)
		for _, value := range []byte{0, 1, 0x55, 0xFF} {
			for chip := range 36 {
				set := chips
				fixes := 0
				for k := range 2 {
					if set[36*k+chip] != value {
						fixes++
					}
					set[36*k+chip] = value
				}
				want := Verdict{Kind: Fixed, Fixes: fixes}
				if fixes == 0 {
					want = Verdict{}
				}
				check(t, c, 2, set, index, l, want)
			}
			for chip := range 9 {
				set := bits
				for w := range 8 {
					set[9*w+chip] = value
				}
				want, verdict := slowDecode(1, set, index)
				check(t, c, 1, set, index, want, verdict)
				switch raw.Exposure(1, set, bits) {
				case 0:
					check(t, c, 1, set, index, l, Verdict{})
				case 1:
					if got, v := c.Decode(1, set, index); got != l || v.Kind != Fixed {
						t.Fatal(chip, value, got, v)
					}
				case 2:
					check(t, c, 1, set, index, line.Line{}, Verdict{Kind: Lost})
				}
			}
		}
	}
	// A line of which the chip 3 of 9 has the same byte in each word, but for a bit or two.
	l := filled(0x0F)
	r := c.Encode(1, l, 0, false)
	check(t, c, 1, r.Chip(1, 3, 0x1F), 0, l, Verdict{Kind: Fixed, Fixes: 8})
	check(t, c, 1, r.Chip(1, 3, 0x3F), 0, line.Line{}, Verdict{Kind: Lost})
	check(t, c, 1, r.Chip(1, 3, 0x0F), 0, l, Verdict{})
}

func TestPoisonedWithSomeTurned(t *testing.T) {
	c, n := New(), chance(11)
	for _, mode := range modes() {
		for _, l := range lines() {
			for _, index := range []int{0, 1, 0x2ABCDE, -1} {
				r := c.Encode(mode, l, index, true)
				check(t, c, mode, r, index, line.Line{}, Verdict{Kind: Poisoned})
				for i := range 576 {
					check(t, c, mode, turned(r, i), index, line.Line{}, Verdict{Kind: Lost})
				}
			}
		}
	}
	for range 1000 {
		l, index := n.line(), n.below(1<<23)
		r := c.Encode(2, l, index, true)
		for word := range 2 {
			for beside := range 3 {
				checkDead(t, c, 2, replaced(replaced(r, word, 2, &n), 1-word, beside, &n), index)
			}
		}
		// One of each word is still told to be lost.
		check(t, c, 2, replaced(replaced(r, 0, 1, &n), 1, 1, &n), index, line.Line{}, Verdict{Kind: Lost})
	}
}

// More than the promise covers: told is what the verdicts of the words make of it.
func TestPoisonedWithMoreTurned(t *testing.T) {
	c, n := New(), chance(12)
	for range 1000 {
		l, index := n.line(), n.below(1<<23)
		bits := turned(c.Encode(1, l, index, true), inWord(1, n.below(8), 2, &n)...)
		want, verdict := slowDecode(1, bits, index)
		check(t, c, 1, bits, index, want, verdict)
		chips := replaced(c.Encode(2, l, index, true), n.below(2), 3, &n)
		want, verdict = slowDecode(2, chips, index)
		check(t, c, 2, chips, index, want, verdict)
	}
	// Two bits of one word beside the poison may look like one: the others are still poisoned.
	r := c.Encode(1, counting(), 0, true)
	fixed := 0
	for a := range 72 {
		for b := range a {
			if _, kinds := words(1, turned(r, a, b), 0); kinds[0] == "fixed" {
				check(t, c, 1, turned(r, a, b), 0, line.Line{}, Verdict{Kind: Poisoned})
				fixed++
			}
		}
	}
	if fixed == 0 {
		t.Error("no two bits look like one")
	}
}

func TestForAnotherIndex(t *testing.T) {
	c := New()
	for _, l := range lines() {
		for _, index := range indices() {
			for _, mode := range modes() {
				r := c.Encode(mode, l, index, false)
				for k := range 23 {
					check(t, c, mode, r, index^1<<k, line.Line{}, Verdict{Kind: Lost})
					for j := range k {
						other := index ^ 1<<k ^ 1<<j
						if mode == 1 {
							check(t, c, mode, r, other, l, Verdict{})
						} else {
							check(t, c, mode, r, other, line.Line{}, Verdict{Kind: Lost})
						}
					}
				}
			}
		}
	}
}

func TestForAnyOtherIndex(t *testing.T) {
	c, n := New(), chance(13)
	for range 3000 {
		l, index, other := n.line(), n.below(1<<23), n.below(1<<23)
		bits, chips := c.Encode(1, l, index, false), c.Encode(2, l, index, false)
		if oddness(index) == oddness(other) {
			check(t, c, 1, bits, other, l, Verdict{})
		} else {
			check(t, c, 1, bits, other, line.Line{}, Verdict{Kind: Lost})
		}
		if index == other {
			check(t, c, 2, chips, other, l, Verdict{})
		} else {
			check(t, c, 2, chips, other, line.Line{}, Verdict{Kind: Lost})
		}
		// One that was poisoned is no line for another index either.
		checkDead(t, c, 1, c.Encode(1, l, index, true), other)
		checkDead(t, c, 2, c.Encode(2, l, index, true), other)
	}
}

// Of another index and with a bit turned: in the mode 2 one symbol each is two in all.
func TestForAnotherIndexWithSomeTurned(t *testing.T) {
	c, n := New(), chance(14)
	for range 1000 {
		l, index := n.line(), n.below(1<<23)
		other := index ^ 1<<n.below(23)
		check(t, c, 1, turned(c.Encode(1, l, index, false), n.below(576)), other, line.Line{}, Verdict{Kind: Lost})
		check(t, c, 2, turned(c.Encode(2, l, index, false), n.below(576)), other, line.Line{}, Verdict{Kind: Lost})
	}
}

// What was made in one mode is decoded in the other one as any raw bytes are.
func TestInTheOtherMode(t *testing.T) {
	c := New()
	for _, l := range lines() {
		for _, mode := range modes() {
			r := c.Encode(mode, l, 3, false)
			want, verdict := slowDecode(3-mode, r, 3)
			check(t, c, 3-mode, r, 3, want, verdict)
		}
	}
}

// The chapter's example.
func TestNoughts(t *testing.T) {
	c := New()
	for _, mode := range modes() {
		if r := c.Encode(mode, line.Line{}, 0, false); r != (raw.Raw{}) {
			t.Error(mode, r)
		}
		check(t, c, mode, raw.Raw{}, 0, line.Line{}, Verdict{})
	}
}

// P1: whatever the arguments, every call ends, none panics, and they agree with the codes.
func FuzzCodec(f *testing.F) {
	f.Add(1, 0, false, 0, 0, []byte("a line"))
	f.Add(2, 1<<23-1, true, 300, 301, []byte{})
	f.Add(0, -1, false, 575, 1, make([]byte, 64))
	f.Add(3, math.MinInt, true, -1, 576, make([]byte, 80))
	f.Add(math.MaxInt, math.MaxInt, false, math.MinInt, math.MaxInt, []byte{1})
	f.Add(math.MinInt, 77, true, 71, 72, []byte{255})
	f.Fuzz(func(t *testing.T, mode, index int, poison bool, a, b int, given []byte) {
		c := New()
		var l line.Line
		copy(l[:], given)
		r := c.Encode(mode, l, index, poison)
		if want := slowEncode(mode, l, index, poison); r != want {
			t.Fatalf("%x, not %x", r, want)
		}
		var any raw.Raw
		copy(any[:], given)
		for _, held := range []raw.Raw{r, any, r.Flip(a), r.Flip(a).Flip(b), any.Flip(b)} {
			for _, asked := range []int{index, a, b} {
				want, verdict := slowDecode(mode, held, asked)
				check(t, c, mode, held, asked, want, verdict)
			}
		}
	})
}

func BenchmarkDecode(b *testing.B) {
	c := New()
	for _, mode := range modes() {
		r := c.Encode(mode, counting(), 77, false)
		b.Run([]string{"", "bits", "chips"}[mode], func(b *testing.B) {
			for range b.N {
				c.Decode(mode, r, 77)
			}
		})
	}
}

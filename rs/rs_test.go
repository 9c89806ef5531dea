package rs

import (
	"bytes"
	"testing"

	"cuirass/gf"
)

// slowMul is the product by the words of layer 1's chapter, without its tables.
func slowMul(a, b byte) byte {
	product := byte(0)
	for ; b > 0; b >>= 1 {
		if b&1 == 1 {
			product ^= a
		}
		carry := a&0x80 != 0
		a <<= 1
		if carry {
			a ^= 0x1d
		}
	}
	return product
}

// slowPower is x^n, of n from 0 on.
func slowPower(n int) byte {
	power := byte(1)
	for range n {
		power = slowMul(power, 2)
	}
	return power
}

func slowInverse(a byte) byte {
	b := byte(1)
	for slowMul(a, b) != 1 {
		b++
	}
	return b
}

// powers are x^0 to x^254: the tests below take them often.
var powers = func() (told [255]byte) {
	for n := range told {
		told[n] = slowPower(n)
	}
	return told
}()

// word39 is a word with its virtual symbols behind the stored ones.
type word39 [39]byte

func (w word39) parts() (stored [36]byte, virtual [3]byte) {
	return [36]byte(w[:36]), [3]byte(w[36:])
}

func (w word39) data() [32]byte {
	return [32]byte(w[4:36])
}

// slowSyndromes sums each symbol times its power, of each of the four roots.
func slowSyndromes(w word39) (s [4]byte) {
	for j := range s {
		for i, symbol := range w {
			s[j] ^= slowMul(symbol, powers[i*j%255])
		}
	}
	return s
}

// codeWord puts the checks before the data, and tells of a word that isn't a code word.
func codeWord(t *testing.T, c *Code, data [32]byte, virtual [3]byte) word39 {
	t.Helper()
	checks := c.Checks(data, virtual)
	var w word39
	copy(w[:], checks[:])
	copy(w[4:], data[:])
	copy(w[36:], virtual[:])
	if s := slowSyndromes(w); s != [4]byte{} {
		t.Fatalf("Checks(%v, %v) = %v: syndromes %v", data, virtual, checks, s)
	}
	return w
}

// noise are numbers that follow no simple rule.
type noise uint64

func (n *noise) next() uint64 {
	*n ^= *n << 13
	*n ^= *n >> 7
	*n ^= *n << 17
	return uint64(*n)
}

func (n *noise) fill(list []byte) {
	for i := range list {
		list[i] = byte(n.next() >> 20)
	}
}

// other is a symbol but 0.
func (n *noise) other() byte {
	return byte(n.next()>>20%255) + 1
}

func filled(symbol byte) (data [32]byte) {
	for i := range data {
		data[i] = symbol
	}
	return data
}

func counted(factor, first int) (data [32]byte) {
	for i := range data {
		data[i] = byte(factor*i + first)
	}
	return data
}

func single(place int, symbol byte) (data [32]byte) {
	data[place] = symbol
	return data
}

// codeWords are code words of the named edges, and many that look like any.
func codeWords(t *testing.T, c *Code) []word39 {
	t.Helper()
	told := []word39{}
	for _, virtual := range [][3]byte{{}, {1, 2, 3}, {0, 0, 0x80}, {255, 255, 255}} {
		for _, data := range [][32]byte{filled(0), filled(1), filled(255), counted(1, 0), counted(7, 1), single(0, 1), single(31, 255)} {
			told = append(told, codeWord(t, c, data, virtual))
		}
	}
	n := noise(88172645463325252)
	for range 20 {
		var data [32]byte
		var virtual [3]byte
		n.fill(data[:])
		n.fill(virtual[:])
		told = append(told, codeWord(t, c, data, virtual))
	}
	return told
}

// want is the verdict of one symbol replaced.
func want(place int, value byte) Verdict {
	if place < 36 {
		return Verdict{Kind: Fixed, Place: place, Value: value}
	}
	return Verdict{Kind: Virtual, Place: place, Value: value}
}

var clean = Verdict{Kind: Clean, Place: -1}
var lost = Verdict{Kind: Lost, Place: -1}

// P5.1: the verdicts' numbers.
func TestVerdicts(t *testing.T) {
	if got := [4]int{Clean, Fixed, Virtual, Lost}; got != [4]int{0, 1, 2, 3} {
		t.Error(got)
	}
}

// P5.1: the five coefficients, multiplied out by hand, and 0 at the four roots alone.
func TestGenerator(t *testing.T) {
	g := New(gf.New()).Generator()
	if !bytes.Equal(g, []byte{64, 120, 54, 15, 1}) {
		t.Fatal(g)
	}
	for x := range 256 {
		value, power := byte(0), byte(1)
		for _, coefficient := range g {
			value ^= slowMul(coefficient, power)
			power = slowMul(power, byte(x))
		}
		isRoot := x == 1 || x == 2 || x == 4 || x == 8
		if (value == 0) != isRoot {
			t.Errorf("at %d: %d", x, value)
		}
	}
}

// P5.1: the generator is told anew each time, its spare room too: what is done to one changes no other, and not the code.
func TestGeneratorIsNew(t *testing.T) {
	c := New(gf.New())
	first, second := c.Generator(), c.Generator()
	for i, whole := range [][]byte{first[:cap(first)], second[:cap(second)]} {
		for j := range whole {
			whole[j] = byte(100 + i)
		}
	}
	if first[0] != 100 || second[0] != 101 {
		t.Error("two answers share memory:", first, second)
	}
	if got := c.Generator(); !bytes.Equal(got, []byte{64, 120, 54, 15, 1}) {
		t.Error("the code's own was changed:", got)
	}
	if got := c.Checks(single(0, 1), [3]byte{}); got != [4]byte{64, 120, 54, 15} {
		t.Error("the checks were changed:", got)
	}
}

// P5.1: checks that were worked out apart from the program, by solving the four equations.
func TestChecksExamples(t *testing.T) {
	c := New(gf.New())
	for i, x := range []struct {
		data    [32]byte
		virtual [3]byte
		want    [4]byte
	}{
		{filled(0), [3]byte{}, [4]byte{}},
		{single(0, 1), [3]byte{}, [4]byte{64, 120, 54, 15}}, // the generator's own
		{single(1, 1), [3]byte{}, [4]byte{231, 210, 87, 99}},
		{single(31, 1), [3]byte{}, [4]byte{164, 44, 13, 132}},
		{filled(0), [3]byte{1, 0, 0}, [4]byte{154, 143, 246, 226}},
		{filled(0), [3]byte{0, 0, 1}, [4]byte{168, 225, 212, 156}},
		{filled(0), [3]byte{0, 0, 128}, [4]byte{170, 217, 70, 181}},
		{filled(0), [3]byte{255, 255, 255}, [4]byte{75, 227, 65, 22}},
		{filled(255), [3]byte{}, [4]byte{45, 221, 123, 139}},
		{filled(255), [3]byte{1, 2, 3}, [4]byte{22, 180, 48, 146}},
		{filled(255), [3]byte{255, 255, 255}, [4]byte{102, 62, 58, 157}},
		{counted(1, 0), [3]byte{}, [4]byte{184, 153, 73, 104}},
		{counted(7, 1), [3]byte{1, 2, 3}, [4]byte{249, 223, 231, 65}},
	} {
		if got := c.Checks(x.data, x.virtual); got != x.want {
			t.Errorf("%d: Checks(%v, %v) = %v, want %v", i, x.data, x.virtual, got, x.want)
		}
	}
}

// P5.1: with its checks a word is 0 at all four roots; with one of them replaced by whatever it is not.
func TestChecks(t *testing.T) {
	c := New(gf.New())
	for _, w := range codeWords(t, c) {
		if s := c.Syndromes(w.parts()); s != [4]byte{} {
			t.Fatalf("Syndromes of %v = %v", w, s)
		}
		for i := range 4 {
			for value := 1; value < 256; value++ {
				y := w
				y[i] ^= byte(value)
				if s := c.Syndromes(y.parts()); s == [4]byte{} {
					t.Fatalf("%v has syndromes 0 as well as %v", y, w)
				}
			}
		}
	}
}

// P5.1: checks that end in noughts, so that what is left of the division is shorter than four.
func TestShortChecks(t *testing.T) {
	c := New(gf.New())
	n := noise(1234567)
	var seen [5]int
	for range 100000 {
		var data [32]byte
		n.fill(data[:2])
		k := c.Checks(data, [3]byte{})
		length := 4
		for length > 0 && k[length-1] == 0 {
			length--
		}
		seen[length]++
		if length < 4 {
			codeWord(t, c, data, [3]byte{})
		}
	}
	if seen[3] == 0 {
		t.Error("no short ones were tried:", seen)
	}
}

// P5.1: the syndromes of each one symbol by itself are its value times the powers of its place.
func TestSyndromesOfOne(t *testing.T) {
	c := New(gf.New())
	for i := range 39 {
		for value := range 256 {
			var w word39
			w[i] = byte(value)
			var want [4]byte
			for j := range want {
				want[j] = slowMul(byte(value), powers[i*j])
			}
			if got := c.Syndromes(w.parts()); got != want {
				t.Fatalf("the symbol %d as %d: %v, want %v", i, value, got, want)
			}
		}
	}
}

// P5.1: the syndromes of words that are code words and that aren't.
func TestSyndromes(t *testing.T) {
	c := New(gf.New())
	n := noise(362436069)
	words := codeWords(t, c)
	for range 2000 {
		var w word39
		n.fill(w[:])
		words = append(words, w)
	}
	var ones word39
	for i := range ones {
		ones[i] = 255
	}
	for _, w := range append(words, ones, word39{}) {
		if got, want := c.Syndromes(w.parts()), slowSyndromes(w); got != want {
			t.Fatalf("Syndromes of %v = %v, want %v", w, got, want)
		}
	}
}

// P5.2: no syndrome: Clean, -1 and 0.
func TestLocateNone(t *testing.T) {
	if got := New(gf.New()).Locate([4]byte{}); got != clean {
		t.Error(got)
	}
}

// P5.2: the syndromes of each of the 39 symbols replaced by each value; those of places past the word are Lost.
func TestLocateOne(t *testing.T) {
	c := New(gf.New())
	for place := range 255 {
		for value := 1; value < 256; value++ {
			var s [4]byte
			for j := range s {
				s[j] = slowMul(byte(value), powers[place*j%255])
			}
			verdict := lost
			if place < 39 {
				verdict = want(place, byte(value))
			}
			if got := c.Locate(s); got != verdict {
				t.Fatalf("Locate(%v), the symbol %d by %d: %v, want %v", s, place, value, got, verdict)
			}
		}
	}
}

// P5.2: some of the four 0, others not, in every way: no one symbol has that.
func TestLocateSomeNoughts(t *testing.T) {
	c := New(gf.New())
	n := noise(521288629)
	for mask := 1; mask < 15; mask++ {
		for round := range 2000 {
			var s [4]byte
			for j := range s {
				if mask>>j&1 == 1 {
					s[j] = n.other()
					if round < 255 { // all the same value
						s[j] = byte(round + 1)
					}
				}
			}
			if got := c.Locate(s); got != lost {
				t.Fatalf("Locate(%v) = %v", s, got)
			}
		}
	}
}

// P5.2: three of the four fit one symbol, and the fourth doesn't, whichever it is.
func TestLocateThreeFit(t *testing.T) {
	c := New(gf.New())
	for place := range 39 {
		for value := 1; value < 256; value += 2 {
			for odd := range 4 {
				for _, change := range []byte{1, 2, 0x80, 0xff, byte(value), 0x1d} {
					var s [4]byte
					for j := range s {
						s[j] = slowMul(byte(value), powers[place*j])
					}
					s[odd] ^= change
					if got := c.Locate(s); got != lost {
						t.Fatalf("Locate(%v) = %v, want Lost: %d of the symbol %d is changed by %d", s, got, odd, place, change)
					}
				}
			}
		}
	}
}

// P5.2: of all syndromes that begin with 0 or 1, in steps over the last, just those of one symbol are told so.
func TestLocateMany(t *testing.T) {
	c := New(gf.New())
	singles := map[[4]byte]Verdict{{}: clean}
	for place := range 39 {
		singles[[4]byte{1, powers[place], powers[2*place], powers[3*place]}] = want(place, 1)
	}
	counts := [4]int{}
	try := func(s [4]byte) {
		verdict, found := singles[s]
		if !found {
			verdict = lost
		}
		if got := c.Locate(s); got != verdict {
			t.Fatalf("Locate(%v) = %v, want %v", s, got, verdict)
		}
		counts[verdict.Kind]++
	}
	for first := range 2 {
		for second := range 256 {
			for third := range 256 {
				fit := slowMul(byte(second), byte(third))
				for _, fourth := range []byte{0, 1, fit, fit ^ 1, byte(second), byte(third), 255} {
					try([4]byte{byte(first), byte(second), byte(third), fourth})
				}
			}
		}
	}
	for kind, count := range counts {
		if count == 0 {
			t.Error("never wanted:", kind)
		}
	}
}

// P5.2: the chapter's examples.
func TestDecodeExamples(t *testing.T) {
	c := New(gf.New())
	if data, verdict := c.Decode([36]byte{}, [3]byte{}); data != [32]byte{} || verdict != clean {
		t.Error(data, verdict)
	}
	if data, verdict := c.Decode([36]byte{4: 9}, [3]byte{}); data != [32]byte{} || verdict != (Verdict{Kind: Fixed, Place: 4, Value: 9}) {
		t.Error(data, verdict)
	}
}

// P5.2: a code word is Clean, and its data are told.
func TestDecodeCodeWord(t *testing.T) {
	c := New(gf.New())
	for _, w := range codeWords(t, c) {
		stored, virtual := w.parts()
		if data, verdict := c.Decode(stored, virtual); data != w.data() || verdict != clean {
			t.Errorf("%v: %v, %v", w, data, verdict)
		}
	}
}

// P5.2 and P5.3: each one stored symbol replaced by each other: the code word's data; each virtual one: Virtual, and the data as they stand.
func TestOneReplaced(t *testing.T) {
	c := New(gf.New())
	for _, w := range codeWords(t, c) {
		for place := range 39 {
			for value := 1; value < 256; value++ {
				y := w
				y[place] ^= byte(value)
				stored, virtual := y.parts()
				data, verdict := c.Decode(stored, virtual)
				if data != w.data() || verdict != want(place, byte(value)) {
					t.Fatalf("%v, the symbol %d by %d: %v, %v", w, place, value, data, verdict)
				}
			}
		}
	}
}

// mustBeLost replaces symbols by adding values, and asks for Lost, and the data as they stand.
func mustBeLost(t *testing.T, c *Code, w word39, places []int, values []byte) {
	t.Helper()
	y := w
	for i, place := range places {
		y[place] ^= values[i]
	}
	stored, virtual := y.parts()
	data, verdict := c.Decode(stored, virtual)
	if verdict != lost || data != y.data() {
		t.Fatalf("%v, the symbols %v by %v: %v, %v", w, places, values, data, verdict)
	}
}

// P5.3: all pairs of the 39 symbols, by many values.
func TestTwoReplaced(t *testing.T) {
	c := New(gf.New())
	n := noise(2463534242)
	words := codeWords(t, c)
	for j := range 39 {
		for i := range j {
			places := []int{i, j}
			for k := range 60 {
				a, b := n.other(), n.other()
				w := words[k%len(words)]
				mustBeLost(t, c, w, places, []byte{a, b})
				mustBeLost(t, c, w, places, []byte{a, a}) // the first syndrome is 0
				for root := 1; root < 4; root++ {         // that of this root is 0
					mustBeLost(t, c, w, places, []byte{slowMul(a, powers[(j-i)*root]), a})
				}
			}
		}
	}
}

// P5.3: all threes of the 39 symbols, by many values.
func TestThreeReplaced(t *testing.T) {
	c := New(gf.New())
	n := noise(1181783497)
	words := codeWords(t, c)
	for k := range 39 {
		for j := range k {
			for i := range j {
				w := words[(i+3*j+7*k)%len(words)]
				places := []int{i, j, k}
				a := n.other()
				mustBeLost(t, c, w, places, []byte{a, a, a})
				for range 4 {
					a, b, d := n.other(), n.other(), n.other()
					mustBeLost(t, c, w, places, []byte{a, b, d})
					if a != b {
						mustBeLost(t, c, w, places, []byte{a, b, a ^ b}) // the first syndrome is 0
					}
				}
			}
		}
	}
}

// fourPlaces are four unlike ones of the 39.
func fourPlaces(n *noise) (told [4]int) {
	places := [39]int{}
	for i := range places {
		places[i] = i
	}
	for i := range told {
		other := i + int(n.next()>>20%uint64(39-i))
		places[i], places[other] = places[other], places[i]
		told[i] = places[i]
	}
	return told
}

// share is what 1 at the last of four places is made of at the i-th of the others, where the first three syndromes are to be the same (Lagrange's weights).
func share(places [4]int, i int) byte {
	told := byte(1)
	for j := range 3 {
		if j != i {
			here, there, last := powers[places[i]], powers[places[j]], powers[places[3]]
			told = slowMul(told, slowMul(last^there, slowInverse(here^there)))
		}
	}
	return told
}

// P5.3: three symbols replaced so that the first three syndromes, or the last three, are those of another one replaced: the fourth alone tells.
func TestThreeLikeOne(t *testing.T) {
	c := New(gf.New())
	words := codeWords(t, c)
	n := noise(3037000493)
	for round := range 5000 {
		w := words[round%len(words)]
		places := fourPlaces(&n)
		value := n.other()
		var first, last [3]byte
		var added word39
		for i := range first {
			first[i] = slowMul(value, share(places, i))
			last[i] = slowMul(first[i], slowInverse(powers[places[i]]))
			added[places[i]] = first[i]
		}
		s := slowSyndromes(added)
		for j := range 3 {
			if s[j] != slowMul(value, powers[places[3]*j]) {
				t.Fatalf("%v by %v: %v, not like one symbol", places, first, s)
			}
		}
		mustBeLost(t, c, w, places[:3], first[:])
		mustBeLost(t, c, w, places[:3], last[:])
	}
}

// P5.2: what is handed in stays as it is, and the same is told each time, also by another code over the same field and by one over another.
func TestNothingIsKept(t *testing.T) {
	f := gf.New()
	codes := []*Code{New(f), New(f), New(gf.New())}
	n := noise(97)
	for _, w := range codeWords(t, codes[0]) {
		stored, virtual := w.parts()
		stored[7] ^= n.other()
		data := w.data()
		s := codes[0].Syndromes(stored, virtual)
		wasStored, wasVirtual, wasData, wasS := stored, virtual, data, s
		for _, c := range append(codes, codes...) {
			told, verdict := c.Decode(stored, virtual)
			if told != data || verdict.Kind != Fixed || verdict.Place != 7 || c.Locate(s) != verdict {
				t.Fatal(told, verdict)
			}
			if checks := c.Checks(data, virtual); checks != [4]byte(w[:4]) {
				t.Fatal(checks)
			}
			if c.Syndromes(stored, virtual) != s {
				t.Fatal(s)
			}
			for i := range told { // what was told is the caller's
				told[i] = 0xee
			}
		}
		if stored != wasStored || virtual != wasVirtual || data != wasData || s != wasS {
			t.Fatal("what was handed in was changed")
		}
	}
}

// P1: no word, whatever stands in it, makes a call panic, and what is told is one of the table's verdicts.
func TestAnyWord(t *testing.T) {
	c := New(gf.New())
	n := noise(5)
	for range 20000 {
		var w word39
		n.fill(w[:])
		stored, virtual := w.parts()
		data, verdict := c.Decode(stored, virtual)
		if verdict != c.Locate(slowSyndromes(w)) {
			t.Fatalf("%v: %v", w, verdict)
		}
		mended := w
		switch verdict.Kind {
		case Fixed, Virtual:
			mended[verdict.Place] ^= verdict.Value
			if slowSyndromes(mended) != [4]byte{} || verdict != want(verdict.Place, verdict.Value) || verdict.Value == 0 {
				t.Fatalf("%v: %v", w, verdict)
			}
		case Clean:
			if slowSyndromes(w) != [4]byte{} || verdict != clean {
				t.Fatalf("%v: %v", w, verdict)
			}
		default:
			if verdict != lost {
				t.Fatalf("%v: %v", w, verdict)
			}
		}
		if data != mended.data() {
			t.Fatalf("%v: %v, %v", w, data, verdict)
		}
	}
}

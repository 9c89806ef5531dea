package hsiao

import (
	"math"
	"math/bits"
	"slices"
	"testing"
)

// written are the 74 columns, written out by hand from the chapter's rule.
var written = [74]byte{
	0x07, 0x0b, 0x0d, 0x0e, 0x13, 0x15, 0x16, 0x19,
	0x1a, 0x1c, 0x23, 0x25, 0x26, 0x29, 0x2a, 0x2c,
	0x31, 0x32, 0x34, 0x38, 0x43, 0x45, 0x46, 0x49,
	0x4a, 0x4c, 0x51, 0x52, 0x54, 0x58, 0x61, 0x62,
	0x64, 0x68, 0x70, 0x83, 0x85, 0x86, 0x89, 0x8a,
	0x8c, 0x91, 0x92, 0x94, 0x98, 0xa1, 0xa2, 0xa4,
	0xa8, 0xb0, 0xc1, 0xc2, 0xc4, 0xc8, 0xd0, 0xe0,
	0x1f, 0x2f, 0x37, 0x3b, 0x3d, 0x3e, 0x4f, 0x57,
	0x01, 0x02, 0x04, 0x08, 0x10, 0x20, 0x40, 0x80,
	0x5b, 0x5d,
}

// words are some data: the named edges, each bit alone, and many that look like any.
func words() []uint64 {
	w := []uint64{0, 1, math.MaxUint64, 1 << 63, 0x0123456789abcdef, 0x5555555555555555, 0xaaaaaaaaaaaaaaaa, 1<<56 - 1, 0xff << 56}
	for i := range 64 {
		w = append(w, 1<<i, ^uint64(1<<i))
	}
	x := uint64(88172645463325252)
	for range 200 {
		x ^= x << 13
		x ^= x >> 7
		x ^= x << 17
		w = append(w, x)
	}
	return w
}

// numbers are addresses and poisons of one bit and more, and below 0.
var numbers = []int{0, 1, 2, 3, 4, 5, 254, 255, 256, 1 << 32, 1<<32 + 1, -1, -2, -3, -4, math.MaxInt, math.MaxInt - 1, math.MinInt, math.MinInt + 1}

// lowest is a number's lowest bit, told without taking bits of it.
func lowest(n int) int {
	if n%2 == 0 {
		return 0
	}
	return 1
}

// slowSyndrome goes through all 74 bits one by one.
func slowSyndrome(data uint64, check byte, address, poison int) byte {
	var ones [74]bool
	for i := range 64 {
		ones[i] = data>>i&1 == 1
	}
	for i := range 8 {
		ones[64+i] = check>>i&1 == 1
	}
	ones[72] = lowest(address) == 1
	ones[73] = lowest(poison) == 1
	s := byte(0)
	for i, one := range ones {
		if one {
			s ^= written[i]
		}
	}
	return s
}

// P4.1: the verdicts' numbers.
func TestVerdicts(t *testing.T) {
	if got := [5]int{Clean, Fixed, Poisoned, Astray, Lost}; got != [5]int{0, 1, 2, 3, 4} {
		t.Error(got)
	}
}

// P4.1: all 74 columns, each by its rule, and as they are written out.
func TestColumn(t *testing.T) {
	c := New()
	seen := map[byte]int{}
	for i, want := range written {
		got := c.Column(i)
		if got != want {
			t.Errorf("Column(%d) = %02x, want %02x", i, got, want)
		}
		if other, twice := seen[got]; twice {
			t.Errorf("columns %d and %d are alike", other, i)
		}
		seen[got] = i
		if bits.OnesCount8(got)%2 != 1 {
			t.Errorf("Column(%d) = %02x has an even weight", i, got)
		}
	}
	three, five := []int{}, []int{}
	for i := range 56 {
		three = append(three, i)
	}
	for i := 56; i < 64; i++ {
		five = append(five, i)
	}
	five = append(five, 72, 73)
	for ones, places := range map[int][]int{3: three, 5: five} {
		x := 0
		for _, i := range places {
			for bits.OnesCount(uint(x)) != ones {
				x++
			}
			if int(c.Column(i)) != x {
				t.Errorf("Column(%d) = %02x, want the next with %d ones, %02x", i, c.Column(i), ones, x)
			}
			x++
		}
	}
	for i := range 8 {
		if c.Column(64+i) != 1<<i {
			t.Errorf("Column(%d) = %02x", 64+i, c.Column(64+i))
		}
	}
}

// P4.1: a bit that isn't there has the column 0.
func TestColumnOutside(t *testing.T) {
	c := New()
	outside := []int{-1, -2, -8, -64, -72, -73, -74, -255, -256, 74, 75, 76, 80, 127, 128, 255, 256, 1 << 31, 1 << 32, 1<<32 + 1, -1 << 31, math.MaxInt, math.MinInt}
	for _, i := range outside {
		if got := c.Column(i); got != 0 {
			t.Errorf("Column(%d) = %02x, want 0", i, got)
		}
	}
}

// P4.1: Columns tells all, rising, and begins anew with each range.
func TestColumns(t *testing.T) {
	c := New()
	columns := c.Columns()
	for range 2 {
		next := 0
		for i, x := range columns {
			if i != next || i >= len(written) || x != written[i] {
				t.Fatalf("%d: %d %02x", next, i, x)
			}
			next++
		}
		if next != 74 {
			t.Error(next)
		}
	}
}

// P4.1: Columns tells as far as it is asked, wherever it is left.
func TestColumnsLeft(t *testing.T) {
	columns := New().Columns()
	for end := 1; end <= 74; end++ {
		asked := 0
		columns(func(i int, x byte) bool {
			if i != asked || x != written[i] {
				t.Errorf("%d: %d %02x", asked, i, x)
			}
			asked++
			return asked < end
		})
		if asked != end {
			t.Errorf("asked for %d, told %d", end, asked)
		}
	}
}

// P4.1: two ranges of one code, one within the other, and two codes don't meddle with each other.
func TestColumnsWithin(t *testing.T) {
	c := New()
	d := New()
	count := 0
	for i, x := range c.Columns() {
		for j, y := range c.Columns() {
			if (i == j) != (x == y) || d.Column(j) != y {
				t.Fatal(i, j, x, y)
			}
			count++
		}
	}
	if count != 74*74 {
		t.Error(count)
	}
}

// P4.1: the chapter's example, and check bits worked out by hand.
func TestCheckExamples(t *testing.T) {
	c := New()
	for _, x := range []struct {
		data            uint64
		address, poison int
		want            byte
	}{
		{1, 0, 0, 0x07},
		{0, 0, 0, 0},
		{0, 1, 0, 0x5b},
		{0, 0, 1, 0x5d},
		{0, 1, 1, 0x06},
		{3, 0, 0, 0x0c},
		{1, 1, 0, 0x5c},
		{1 << 55, 0, 0, 0xe0},
		{1 << 56, 0, 0, 0x1f},
		{1 << 63, 0, 1, 0x0a},
		{0, 2, -2, 0},
		{0, 3, -1, 0x06},
		{0, -1, 2, 0x5b},
	} {
		if got := c.Check(x.data, x.address, x.poison); got != x.want {
			t.Errorf("Check(%x, %d, %d) = %02x, want %02x", x.data, x.address, x.poison, got, x.want)
		}
	}
	// Each bit of a column is set in 21 of those with three ones; of the eight data columns with five by hand.
	if got := c.Check(math.MaxUint64, 0, 0); got != 0xff^0x1f^0x2f^0x37^0x3b^0x3d^0x3e^0x4f^0x57 {
		t.Errorf("all ones: %02x", got)
	}
}

// P4.1: the check bits make the syndrome 0, and no others do; of address and poison the lowest bits count.
func TestCheck(t *testing.T) {
	c := New()
	for _, data := range words() {
		for _, address := range numbers {
			for _, poison := range numbers {
				k := c.Check(data, address, poison)
				if k != slowSyndrome(data, 0, address, poison) {
					t.Fatalf("Check(%x, %d, %d) = %02x", data, address, poison, k)
				}
				if s := c.Syndrome(data, k, address, poison); s != 0 {
					t.Fatalf("Syndrome(%x, %02x, %d, %d) = %02x", data, k, address, poison, s)
				}
			}
		}
	}
	for other := range 256 {
		s := c.Syndrome(0x0123456789abcdef, byte(other), 1, 0)
		if (s == 0) != (byte(other) == c.Check(0x0123456789abcdef, 1, 0)) {
			t.Errorf("%02x: %02x", other, s)
		}
	}
}

// P4.1: the syndrome is the exclusive or of the columns of the ones.
func TestSyndrome(t *testing.T) {
	c := New()
	for i := range 74 {
		data, check, address, poison := one(i)
		if got := c.Syndrome(data, check, address, poison); got != written[i] {
			t.Errorf("the bit %d alone: %02x, want %02x", i, got, written[i])
		}
	}
	if got := c.Syndrome(0, 0, 0, 0); got != 0 {
		t.Errorf("no ones: %02x", got)
	}
	all := byte(0)
	for _, x := range written {
		all ^= x
	}
	if got := c.Syndrome(math.MaxUint64, 0xff, -1, -1); got != all {
		t.Errorf("all ones: %02x, want %02x", got, all)
	}
	for n, data := range words() {
		for _, address := range numbers {
			for _, poison := range numbers {
				check := byte(37*n + address + 3*poison)
				want := slowSyndrome(data, check, address, poison)
				if got := c.Syndrome(data, check, address, poison); got != want {
					t.Fatalf("Syndrome(%x, %02x, %d, %d) = %02x, want %02x", data, check, address, poison, got, want)
				}
			}
		}
	}
}

// one is the 74 bits of which i alone is 1.
func one(i int) (data uint64, check byte, address, poison int) {
	switch {
	case i < 64:
		data = 1 << i
	case i < 72:
		check = 1 << (i - 64)
	case i == 72:
		address = 1
	case i == 73:
		poison = 1
	}
	return data, check, address, poison
}

// verdict is what a syndrome must be told as.
func verdict(s byte) (kind, place int) {
	i := slices.Index(written[:], s)
	switch {
	case s == 0:
		return Clean, -1
	case i < 0:
		return Lost, -1
	case i == 72:
		return Astray, -1
	case i == 73:
		return Poisoned, -1
	}
	return Fixed, i
}

// P4.2: all 256 syndromes.
func TestClassify(t *testing.T) {
	c := New()
	var counts [5]int
	for s := range 256 {
		kind, place := c.Classify(byte(s))
		wantKind, wantPlace := verdict(byte(s))
		if kind != wantKind || place != wantPlace {
			t.Errorf("Classify(%02x) = %d, %d, want %d, %d", s, kind, place, wantKind, wantPlace)
			continue
		}
		counts[kind]++
	}
	if counts != [5]int{Clean: 1, Fixed: 72, Poisoned: 1, Astray: 1, Lost: 181} {
		t.Error(counts)
	}
}

// P4.2: Decode tells each verdict; the data only with a bit of theirs turned.
func TestDecode(t *testing.T) {
	c := New()
	for _, data := range words() {
		for _, address := range numbers {
			k := c.Check(data, address, 0)
			for s := range 256 {
				wantKind, wantPlace := verdict(byte(s))
				want := data
				if wantKind == Fixed && wantPlace < 64 {
					want ^= 1 << wantPlace
				}
				fixed, kind, place := c.Decode(data, k^byte(s), address)
				if fixed != want || kind != wantKind || place != wantPlace {
					t.Fatalf("Decode(%x, %02x, %d) with syndrome %02x = %x, %d, %d, want %x, %d, %d", data, k^byte(s), address, s, fixed, kind, place, want, wantKind, wantPlace)
				}
			}
		}
	}
}

// P4.2: of the address that Decode is given the lowest bit counts.
func TestDecodeAddress(t *testing.T) {
	c := New()
	data := uint64(0xfedcba9876543210)
	for _, laid := range numbers {
		for _, read := range numbers {
			want := Clean
			if lowest(laid) != lowest(read) {
				want = Astray
			}
			fixed, kind, place := c.Decode(data, c.Check(data, laid, 0), read)
			if fixed != data || kind != want || place != -1 {
				t.Errorf("laid for %d, read for %d: %x, %d, %d", laid, read, fixed, kind, place)
			}
		}
	}
}

// P4.3: each one stored bit turned: the data are told.
func TestOneTurned(t *testing.T) {
	c := New()
	for _, data := range words() {
		for address := range 2 {
			check := c.Check(data, address, 0)
			for i := range 72 {
				d, k, _, _ := one(i)
				fixed, kind, place := c.Decode(data^d, check^k, address)
				if fixed != data || kind != Fixed || place != i {
					t.Fatalf("%x, bit %d: %x, %d, %d", data, i, fixed, kind, place)
				}
			}
		}
	}
}

// P4.3: each two of the 74 bits turned: Lost, and the data as they stand.
func TestTwoTurned(t *testing.T) {
	c := New()
	for _, data := range words() {
		for j := range 74 {
			for i := range j {
				di, ki, ai, pi := one(i)
				dj, kj, aj, pj := one(j)
				// The unstored bits are turned where the word is laid.
				check := c.Check(data, 1^ai^aj, pi^pj)
				turned := data ^ di ^ dj
				fixed, kind, place := c.Decode(turned, check^ki^kj, 1)
				if fixed != turned || kind != Lost || place != -1 {
					t.Fatalf("%x, bits %d and %d: %x, %d, %d", data, i, j, fixed, kind, place)
				}
			}
		}
	}
}

// P4.3: laid with the poison's bit: Poisoned; read for the other address's bit: Astray; both: Lost; none: Clean.
func TestUnstored(t *testing.T) {
	c := New()
	for _, data := range words() {
		for laid := range 2 {
			for poison := range 2 {
				for read := range 2 {
					want := Clean
					switch {
					case poison == 1 && laid != read:
						want = Lost
					case poison == 1:
						want = Poisoned
					case laid != read:
						want = Astray
					}
					fixed, kind, place := c.Decode(data, c.Check(data, laid, poison), read)
					if fixed != data || kind != want || place != -1 {
						t.Fatalf("%x, laid for %d with %d, read for %d: %x, %d, %d", data, laid, poison, read, fixed, kind, place)
					}
				}
			}
		}
	}
}

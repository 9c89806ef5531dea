package bit

import (
	"bytes"
	"iter"
	"math"
	"slices"
	"testing"
)

// flags, marks, pages and keys are types of other names, which Word lets in by their widths.
type (
	flags uint8
	marks uint16
	pages uint32
	keys  uint64
)

// slowOnes goes through a word from the lowest bit on, by halving it.
func slowOnes[T Word](x T) []int {
	var places []int
	for place := 0; x != 0; place++ {
		if x%2 == 1 {
			places = append(places, place)
		}
		x /= 2
	}
	return places
}

// some are words that follow no simple rule, with the word 0, that with all ones, and those with one bit set or missing.
func some[T Word]() []T {
	words := []T{0, ^T(0)}
	for one := T(1); one != 0; one *= 2 {
		words = append(words, one, ^one, one-1, one|1)
	}
	seed := uint64(9)
	for range 1000 {
		seed = seed*6364136223846793005 + 1442695040888963407
		words = append(words, T(seed>>32|seed<<32))
	}
	return words
}

// all are all words that are so narrow that they can be gone through.
func all[T Word]() []T {
	var words []T
	for x := T(0); ; x++ {
		words = append(words, x)
		if x == ^T(0) {
			return words
		}
	}
}

// upTo takes n of what comes, and tells whether any more came though none was asked for.
func upTo[V any](come iter.Seq[V], n int) (taken []V, more bool) {
	left := false
	come(func(v V) bool {
		if left {
			more = true
			return false
		}
		taken = append(taken, v)
		left = len(taken) >= n
		return !left
	})
	return taken, more
}

// checkAsFarAsAsked leaves a range behind each of its items, and looks whether what came till then is the beginning, and comes anew each time.
func checkAsFarAsAsked[V comparable](t *testing.T, come iter.Seq[V], want []V) {
	t.Helper()
	for n := 1; n <= len(want)+1; n++ {
		taken, more := upTo(come, n)
		if !slices.Equal(taken, want[:min(n, len(want))]) || more {
			t.Errorf("asked for %d of %v: %v, more: %v", n, want, taken, more)
		}
	}
	if again := slices.Collect(come); !slices.Equal(again, want) {
		t.Errorf("again: %v, not %v", again, want)
	}
}

// P3.1

func checkWords[T Word](t *testing.T, words []T) {
	t.Helper()
	for _, x := range words {
		places := slowOnes(x)
		if got := Weight(x); got != len(places) {
			t.Fatalf("Weight(%x) = %d", x, got)
		}
		if got := Parity(x); got != len(places)%2 {
			t.Fatalf("Parity(%x) = %d", x, got)
		}
		if got := slices.Collect(Ones(x)); !slices.Equal(got, places) {
			t.Fatalf("Ones(%x) = %v", x, got)
		}
	}
}

func TestWeightParityAndOnes(t *testing.T) {
	checkWords(t, all[uint8]())
	checkWords(t, all[uint16]())
	checkWords(t, some[uint32]())
	checkWords(t, some[uint64]())
	checkWords(t, all[flags]())
	checkWords(t, some[marks]())
	checkWords(t, some[pages]())
	checkWords(t, some[keys]())
}

func TestNoOnesAndAllOnes(t *testing.T) {
	checkNoneAndAll[uint8](t, 8)
	checkNoneAndAll[uint16](t, 16)
	checkNoneAndAll[uint32](t, 32)
	checkNoneAndAll[uint64](t, 64)
}

func checkNoneAndAll[T Word](t *testing.T, width int) {
	t.Helper()
	if Weight(T(0)) != 0 || Parity(T(0)) != 0 || len(slices.Collect(Ones(T(0)))) != 0 {
		t.Errorf("0 of %d bits: %d, %d", width, Weight(T(0)), Parity(T(0)))
	}
	full := ^T(0)
	if Weight(full) != width || Parity(full) != 0 || Parity(full-1) != 1 || Weight(full-1) != width-1 {
		t.Errorf("all ones of %d bits: %d, %d", width, Weight(full), Parity(full))
	}
	var want []int
	for place := range width {
		want = append(want, place)
	}
	if got := slices.Collect(Ones(full)); !slices.Equal(got, want) {
		t.Errorf("Ones of all ones of %d bits: %v", width, got)
	}
}

func TestOrdinaryWords(t *testing.T) {
	if Weight(uint8(0xB1)) != 4 || Weight(uint16(0x8101)) != 3 || Weight(uint32(0xF0000001)) != 5 || Weight(uint64(1<<63|1<<32|5)) != 4 {
		t.Error("Weight")
	}
	if Parity(uint8(0xB1)) != 0 || Parity(uint16(0x8101)) != 1 || Parity(uint32(0xF0000001)) != 1 || Parity(uint64(1<<63|1<<32|5)) != 0 {
		t.Error("Parity")
	}
	if got := slices.Collect(Ones(uint8(0xB1))); !slices.Equal(got, []int{0, 4, 5, 7}) {
		t.Error(got)
	}
	if got := slices.Collect(Ones(uint16(0x8101))); !slices.Equal(got, []int{0, 8, 15}) {
		t.Error(got)
	}
	if got := slices.Collect(Ones(uint32(0xF0000001))); !slices.Equal(got, []int{0, 28, 29, 30, 31}) {
		t.Error(got)
	}
	if got := slices.Collect(Ones(uint64(1<<63 | 1<<32 | 5))); !slices.Equal(got, []int{0, 2, 32, 63}) {
		t.Error(got)
	}
}

func TestOnesAsFarAsAsked(t *testing.T) {
	checkAsFarAsAsked(t, Ones(uint8(0)), nil)
	checkAsFarAsAsked(t, Ones(uint8(0xB1)), []int{0, 4, 5, 7})
	checkAsFarAsAsked(t, Ones(uint16(0x8101)), []int{0, 8, 15})
	checkAsFarAsAsked(t, Ones(uint32(1<<31)), []int{31})
	checkAsFarAsAsked(t, Ones(^uint64(0)), slowOnes(^uint64(0)))
}

func TestChooseExample(t *testing.T) {
	if got := slices.Collect(Choose[uint8](4, 2)); !slices.Equal(got, []uint8{3, 5, 6, 9, 10, 12}) {
		t.Error(got)
	}
	if got := slices.Collect(Choose[uint64](4, 2)); !slices.Equal(got, []uint64{3, 5, 6, 9, 10, 12}) {
		t.Error(got)
	}
}

// chosen are the words of k ones among n bits, at [n][k], from going through all of 16 bits.
func chosen() [17][17][]uint64 {
	var lists [17][17][]uint64
	for n := range lists {
		for x := uint64(0); x < 1<<n; x++ {
			k := len(slowOnes(x))
			lists[n][k] = append(lists[n][k], x)
		}
	}
	return lists
}

// checkChoose holds all n and k about the edges against the lists, and against none where there are none.
func checkChoose[T Word](t *testing.T, width int, lists *[17][17][]uint64) {
	t.Helper()
	numbers := []int{math.MinInt, math.MinInt + 1, math.MinInt32, -64, math.MaxInt32, 1 << 32, 1<<32 + 4, math.MaxInt - 1, math.MaxInt}
	for i := -3; i <= 66; i++ {
		numbers = append(numbers, i)
	}
	for _, n := range numbers {
		for _, k := range numbers {
			var want []uint64
			if 0 <= k && k <= n && n <= 16 && n <= width {
				want = lists[n][k]
			}
			var got []uint64
			for x := range Choose[T](n, k) {
				got = append(got, uint64(x))
			}
			if !slices.Equal(got, want) {
				t.Fatalf("Choose(%d, %d) of %d bits: %d words, not %d", n, k, width, len(got), len(want))
			}
		}
	}
}

func TestChoose(t *testing.T) {
	lists := chosen()
	checkChoose[uint8](t, 8, &lists)
	checkChoose[uint16](t, 16, &lists)
	checkChoose[uint32](t, 32, &lists)
	checkChoose[uint64](t, 64, &lists)
	checkChoose[flags](t, 8, &lists)
	checkChoose[keys](t, 64, &lists)
}

func TestChooseAtItsEdges(t *testing.T) {
	for i, x := range []struct{ n, k, want int }{
		{0, 0, 1}, {1, 0, 1}, {1, 1, 1}, {8, 3, 56}, {8, 5, 56}, {16, 0, 1}, {16, 1, 16}, {16, 8, 12870}, {16, 16, 1},
		{3, -1, 0}, {3, 4, 0}, {-1, -1, 0}, {-1, 0, 0}, {-1, -2, 0}, {0, 1, 0}, {17, 0, 0}, {17, 1, 0}, {17, 17, 0}, {64, 1, 0},
	} {
		got := slices.Collect(Choose[uint32](x.n, x.k))
		if len(got) != x.want {
			t.Errorf("%d: %d words, not %d", i, len(got), x.want)
		}
	}
	if got := slices.Collect(Choose[uint16](16, 16)); !slices.Equal(got, []uint16{0xFFFF}) {
		t.Error(got)
	}
	if got := slices.Collect(Choose[uint8](8, 8)); !slices.Equal(got, []uint8{0xFF}) {
		t.Error(got)
	}
	if got := slices.Collect(Choose[uint8](9, 1)); len(got) != 0 {
		t.Error(got)
	}
	if got := slices.Collect(Choose[uint8](9, 0)); len(got) != 0 {
		t.Error(got)
	}
}

func TestChooseAsFarAsAsked(t *testing.T) {
	checkAsFarAsAsked(t, Choose[uint8](4, 2), []uint8{3, 5, 6, 9, 10, 12})
	checkAsFarAsAsked(t, Choose[uint16](0, 0), []uint16{0})
	checkAsFarAsAsked(t, Choose[uint32](16, 15), []uint32{0x7FFF, 0xBFFF, 0xDFFF, 0xEFFF, 0xF7FF, 0xFBFF, 0xFDFF, 0xFEFF, 0xFF7F, 0xFFBF, 0xFFDF, 0xFFEF, 0xFFF7, 0xFFFB, 0xFFFD, 0xFFFE})
	checkAsFarAsAsked(t, Choose[uint64](17, 1), nil)
	checkAsFarAsAsked(t, Choose[uint64](3, 4), nil)
}

// P3.2

// lists are bytes of some lengths: none, one, and such as follow no simple rule.
func lists() [][]byte {
	lists := [][]byte{nil, {}, {0}, {1}, {0x80}, {0xFF}, {1, 0x80}, {2}, {3, 0, 9}, {0, 0, 0, 0}, {0xFF, 0xFF, 0xFF}}
	seed := uint32(5)
	for _, n := range []int{2, 7, 8, 9, 64, 72} {
		b := make([]byte, n)
		for i := range b {
			seed = seed*1664525 + 1013904223
			b[i] = byte(seed >> 24)
		}
		lists = append(lists, b)
	}
	return lists
}

// bitsOf are the bits of bytes, one by one.
func bitsOf(b []byte) []int {
	var bits []int
	for _, x := range b {
		for range 8 {
			bits = append(bits, int(x%2))
			x /= 2
		}
	}
	return bits
}

// outside are numbers that no bit of n has.
func outside(n int) []int {
	return []int{-1, -2, -7, -8, -9, -64, math.MinInt, math.MinInt + 7, math.MinInt32, n, n + 1, n + 7, n + 8, n + 64, math.MaxInt32 - 7, math.MaxInt - 8, math.MaxInt}
}

func TestGet(t *testing.T) {
	for _, b := range lists() {
		bits := bitsOf(b)
		for i, want := range bits {
			if got := Get(b, i); got != want {
				t.Errorf("Get(%x, %d) = %d", b, i, got)
			}
		}
		for _, i := range outside(len(bits)) {
			if got := Get(b, i); got != 0 {
				t.Errorf("Get(%x, %d) = %d, though there is none", b, i, got)
			}
		}
	}
	b := []byte{1, 0x80}
	if Get(b, 0) != 1 || Get(b, 1) != 0 || Get(b, 7) != 0 || Get(b, 8) != 0 || Get(b, 15) != 1 {
		t.Error(b)
	}
}

func TestGetKeepsOffSpareRoom(t *testing.T) {
	room := []byte{0xFF, 0xFF, 0xFF}
	if Get(room[:1], 8) != 0 || Get(room[1:2], -1) != 0 || Get(room[:0], 0) != 0 {
		t.Error("a bit that isn't of the list")
	}
}

func TestFlip(t *testing.T) {
	for _, b := range lists() {
		before := slices.Clone(b)
		bits := bitsOf(b)
		for i := range bits {
			got := Flip(b, i)
			want := slices.Clone(bits)
			want[i] = 1 - want[i]
			if !slices.Equal(bitsOf(got), want) {
				t.Errorf("Flip(%x, %d) = %x", b, i, got)
			}
			if back := Flip(got, i); !bytes.Equal(back, b) {
				t.Errorf("Flip(%x, %d) = %x", got, i, back)
			}
		}
		for _, i := range outside(len(bits)) {
			if got := Flip(b, i); !bytes.Equal(got, b) {
				t.Errorf("Flip(%x, %d) = %x, though there is none", b, i, got)
			}
		}
		if !bytes.Equal(b, before) {
			t.Errorf("%x has become %x", before, b)
		}
	}
	if got := Flip([]byte{1, 0x80}, 9); !bytes.Equal(got, []byte{1, 0x82}) {
		t.Error(got)
	}
}

// checkApart writes all over an answer and behind it, and looks whether the argument, with its spare room, stays as it was.
func checkApart(t *testing.T, answer, room []byte) {
	t.Helper()
	before := slices.Clone(room)
	answer = answer[:cap(answer)]
	for i := range answer {
		answer[i] ^= 0xFF
	}
	if !bytes.Equal(room, before) {
		t.Errorf("%x has become %x by what an answer was", before, room)
	}
}

func TestFlipIsOtherMemory(t *testing.T) {
	for _, i := range []int{-1, 0, 9, 15, 16, 20, math.MaxInt} {
		room := []byte{1, 2, 3, 4, 5}
		b := room[:2]
		first, second := Flip(b, i), Flip(b, i)
		if !bytes.Equal(room, []byte{1, 2, 3, 4, 5}) {
			t.Errorf("Flip(.., %d) changed what it was given: %x", i, room)
		}
		checkApart(t, first, room)
		checkApart(t, first, second)
		checkApart(t, Flip(room[:0], i), room)
	}
}

// slowUnlike holds lists of bits against one another as far as both go.
func slowUnlike(a, b []byte) []int {
	var places []int
	ones, others := bitsOf(a), bitsOf(b)
	for i := range min(len(ones), len(others)) {
		if ones[i] != others[i] {
			places = append(places, i)
		}
	}
	return places
}

func TestDifferAndPlaces(t *testing.T) {
	for _, a := range lists() {
		for _, b := range lists() {
			beforeA, beforeB := slices.Clone(a), slices.Clone(b)
			places := slowUnlike(a, b)
			alone := max(len(a), len(b)) - min(len(a), len(b))
			if got := Differ(a, b); got != len(places)+8*alone {
				t.Errorf("Differ(%x, %x) = %d", a, b, got)
			}
			if got := slices.Collect(Places(a, b)); !slices.Equal(got, places) {
				t.Errorf("Places(%x, %x) = %v", a, b, got)
			}
			if !bytes.Equal(a, beforeA) || !bytes.Equal(b, beforeB) {
				t.Errorf("%x, %x have become %x, %x", beforeA, beforeB, a, b)
			}
		}
	}
}

func TestDiffer(t *testing.T) {
	for i, x := range []struct {
		a, b []byte
		want int
	}{
		{nil, nil, 0},
		{nil, []byte{}, 0},
		{[]byte{}, []byte{}, 0},
		{nil, []byte{0}, 8},
		{[]byte{0xFF, 0}, []byte{}, 16},
		{[]byte{0}, []byte{0xFF}, 8},
		{[]byte{1, 0x80}, []byte{2}, 10},
		{[]byte{2}, []byte{1, 0x80}, 10},
		{[]byte{1, 0x80}, []byte{1, 0x80}, 0},
		{[]byte{1, 0x80}, []byte{1, 0x80, 0, 0}, 16},
		{[]byte{1, 0x80}, []byte{3, 0, 9}, 10},
	} {
		if got := Differ(x.a, x.b); got != x.want {
			t.Errorf("%d: %d, not %d", i, got, x.want)
		}
	}
}

func TestPlaces(t *testing.T) {
	for i, x := range []struct {
		a, b []byte
		want []int
	}{
		{nil, nil, nil},
		{nil, []byte{}, nil},
		{nil, []byte{0xFF}, nil},
		{[]byte{0xFF}, []byte{}, nil},
		{[]byte{0}, []byte{0x91}, []int{0, 4, 7}},
		{[]byte{1, 0x80}, []byte{3, 0, 9}, []int{1, 15}},
		{[]byte{3, 0, 9}, []byte{1, 0x80}, []int{1, 15}},
		{[]byte{7, 7, 7}, []byte{7, 7, 7}, nil},
		{[]byte{7, 7, 7}, []byte{7, 7, 0}, []int{16, 17, 18}},
	} {
		if got := slices.Collect(Places(x.a, x.b)); !slices.Equal(got, x.want) {
			t.Errorf("%d: %v, not %v", i, got, x.want)
		}
	}
}

func TestSpareRoomIsNoPartOfTheLists(t *testing.T) {
	room, others := []byte{1, 2, 3, 4}, []byte{9, 8, 7, 6}
	if got := Differ(room[:1], others[:2]); got != 9 {
		t.Error(got)
	}
	if got := slices.Collect(Places(room[:1], others[:2])); !slices.Equal(got, []int{3}) {
		t.Error(got)
	}
}

func TestPlacesAsFarAsAsked(t *testing.T) {
	checkAsFarAsAsked(t, Places(nil, nil), nil)
	checkAsFarAsAsked(t, Places([]byte{5}, []byte{5, 6}), nil)
	checkAsFarAsAsked(t, Places([]byte{1, 0x80}, []byte{3, 0, 9}), []int{1, 15})
	a, b := []byte{0xFF, 0, 0x0F, 0x81}, []byte{0, 0, 0xF0, 1, 7}
	checkAsFarAsAsked(t, Places(a, b), slowUnlike(a, b))
}

func TestPlacesKeepsNothing(t *testing.T) {
	a, b := []byte{1, 2, 3}, []byte{3, 2, 1}
	places := Places(a, b)
	for i := range a {
		a[i], b[i] = 0xFF, 0
	}
	if got := slices.Collect(places); !slices.Equal(got, []int{1, 17}) {
		t.Error(got)
	}
	taken, _ := upTo(places, 1)
	if !slices.Equal(taken, []int{1}) {
		t.Error(taken)
	}
}

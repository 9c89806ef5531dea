package gf

import (
	"bytes"
	"math"
	"slices"
	"testing"

	"cuirass/api"
)

// slowMul is the product by the chapter's words alone: of polynomials over bits, and what is left of a long division.
func slowMul(a, b byte) byte {
	const divisor = 1<<8 | 1<<4 | 1<<3 | 1<<2 | 1
	product := 0
	for i := range 8 {
		if b>>i&1 == 1 {
			product ^= int(a) << i
		}
	}
	for i := 14; i >= 8; i-- {
		if product>>i&1 == 1 {
			product ^= divisor << (i - 8)
		}
	}
	return byte(product)
}

// slowPow squares and multiplies, so that it needs not know when the powers come round.
func slowPow(a byte, n uint64) byte {
	power := byte(1)
	for ; n > 0; n >>= 1 {
		if n&1 == 1 {
			power = slowMul(power, a)
		}
		a = slowMul(a, a)
	}
	return power
}

func slowInv(t *testing.T, a byte) byte {
	t.Helper()
	for b := range 256 {
		if slowMul(a, byte(b)) == 1 {
			return byte(b)
		}
	}
	t.Fatalf("%d has no inverse", a)
	return 0
}

func slowExp(t *testing.T, n int) byte {
	t.Helper()
	if n >= 0 {
		return slowPow(2, uint64(n))
	}
	return slowInv(t, slowPow(2, -uint64(n)))
}

// P1.1

func TestMulOfAllPairs(t *testing.T) {
	f := New()
	for a := range 256 {
		for b := range 256 {
			if got, want := f.Mul(byte(a), byte(b)), slowMul(byte(a), byte(b)); got != want {
				t.Fatalf("Mul(%d, %d) = %d, want %d", a, b, got, want)
			}
		}
	}
}

func TestMulExample(t *testing.T) {
	if got := New().Mul(128, 2); got != 29 {
		t.Errorf("Mul(128, 2) = %d, want 29", got)
	}
}

func TestDivOfAllPairs(t *testing.T) {
	f := New()
	for a := range 256 {
		for b := 1; b < 256; b++ {
			q, e := f.Div(byte(a), byte(b))
			if e != api.OK || slowMul(q, byte(b)) != byte(a) {
				t.Fatalf("Div(%d, %d) = %d, %d", a, b, q, e)
			}
		}
	}
}

func TestDivByZero(t *testing.T) {
	f := New()
	for a := range 256 {
		if q, e := f.Div(byte(a), 0); q != 0 || e != api.ErrZero {
			t.Errorf("Div(%d, 0) = %d, %d, want 0, ErrZero", a, q, e)
		}
	}
}

func TestInv(t *testing.T) {
	f := New()
	if i, e := f.Inv(0); i != 0 || e != api.ErrZero {
		t.Errorf("Inv(0) = %d, %d, want 0, ErrZero", i, e)
	}
	for a := 1; a < 256; a++ {
		i, e := f.Inv(byte(a))
		if want := slowInv(t, byte(a)); e != api.OK || i != want {
			t.Errorf("Inv(%d) = %d, %d, want %d, OK", a, i, e, want)
		}
	}
}

func TestNewIsNewMemory(t *testing.T) {
	f, g := New(), New()
	if f == nil || g == nil || f == g {
		t.Fatal("New answers one field twice, or none")
	}
	if f.Mul(7, 9) != g.Mul(7, 9) {
		t.Error("two fields answer unlike")
	}
}

// P1.2

func TestExp(t *testing.T) {
	f := New()
	for n := -1100; n <= 1100; n++ {
		if got, want := f.Exp(n), slowExp(t, n); got != want {
			t.Errorf("Exp(%d) = %d, want %d", n, got, want)
		}
	}
}

func TestExpOfVeryGreatNumbers(t *testing.T) {
	f := New()
	for _, start := range []int{math.MinInt, math.MinInt32, -1 << 20, 1 << 20, math.MaxInt32, math.MaxInt - 299} {
		for i := range 300 {
			n := start + i
			if got, want := f.Exp(n), slowExp(t, n); got != want {
				t.Errorf("Exp(%d) = %d, want %d", n, got, want)
			}
		}
	}
}

func TestExpExample(t *testing.T) {
	f := New()
	if got := f.Exp(8); got != 29 {
		t.Errorf("Exp(8) = %d, want 29", got)
	}
	if n, e := f.Log(29); n != 8 || e != api.OK {
		t.Errorf("Log(29) = %d, %d, want 8, OK", n, e)
	}
}

func TestLogOfAllElements(t *testing.T) {
	f := New()
	if n, e := f.Log(0); n != 0 || e != api.ErrZero {
		t.Errorf("Log(0) = %d, %d, want 0, ErrZero", n, e)
	}
	power := byte(1)
	for want := range 255 {
		if n, e := f.Log(power); n != want || e != api.OK {
			t.Errorf("Log(%d) = %d, %d, want %d, OK", power, n, e, want)
		}
		power = slowMul(power, 2)
	}
}

func TestPow(t *testing.T) {
	f := New()
	for a := range 256 {
		want := byte(1)
		for n := range 600 {
			if got := f.Pow(byte(a), n); got != want {
				t.Fatalf("Pow(%d, %d) = %d, want %d", a, n, got, want)
			}
			want = slowMul(want, byte(a))
		}
	}
}

func TestPowWithoutTaking(t *testing.T) {
	f := New()
	for a := range 256 {
		for _, n := range []int{0, -1, -2, -254, -255, -256, math.MinInt32, math.MinInt} {
			if got := f.Pow(byte(a), n); got != 1 {
				t.Errorf("Pow(%d, %d) = %d, want 1", a, n, got)
			}
		}
	}
}

func TestPowOfVeryGreatNumbers(t *testing.T) {
	f := New()
	for a := range 256 {
		for _, start := range []int{1 << 20, math.MaxInt32, math.MaxInt/254 - 3, math.MaxInt - 9} {
			for i := range 10 {
				n := start + i
				if got, want := f.Pow(byte(a), n), slowPow(byte(a), uint64(n)); got != want {
					t.Errorf("Pow(%d, %d) = %d, want %d", a, n, got, want)
				}
			}
		}
	}
}

// P1.3

func TestDot(t *testing.T) {
	f := New()
	for i, x := range []struct {
		a, b []byte
		want byte
	}{
		{nil, nil, 0},
		{nil, []byte{}, 0},
		{[]byte{}, []byte{}, 0},
		{nil, []byte{1, 2}, 0},
		{[]byte{}, []byte{1, 2}, 0},
		{[]byte{5}, []byte{1}, 5},
		{[]byte{0, 3}, []byte{9, 0}, 0},
		{[]byte{7, 7}, []byte{1, 1}, 0},
		{[]byte{1, 2, 3}, []byte{4, 128}, 4 ^ 29},
		{[]byte{1, 2, 3}, []byte{4, 128, 3}, 4 ^ 29 ^ 5},
		{[]byte{255, 16, 9, 9, 9}, []byte{255, 16}, 226 ^ 29},
	} {
		if got := f.Dot(x.a, x.b); got != x.want {
			t.Errorf("%d: Dot(%v, %v) = %d, want %d", i, x.a, x.b, got, x.want)
		}
		if got := f.Dot(x.b, x.a); got != x.want {
			t.Errorf("%d: Dot(%v, %v) = %d, want %d", i, x.b, x.a, got, x.want)
		}
	}
}

func TestDotOfLongLists(t *testing.T) {
	f := New()
	a, b := make([]byte, 5000), make([]byte, 4097)
	for i := range a {
		a[i] = byte(i*i + 3*i)
	}
	want := byte(0)
	for i := range b {
		b[i] = byte(7*i + i>>8)
		want ^= slowMul(a[i], b[i])
	}
	if got := f.Dot(a, b); got != want {
		t.Errorf("Dot = %d, want %d", got, want)
	}
}

func TestDotChangesNothing(t *testing.T) {
	a, b := []byte{1, 2, 3, 4, 5}, []byte{6, 7, 8, 9, 10}
	New().Dot(a[:2], b[:3])
	if !bytes.Equal(a, []byte{1, 2, 3, 4, 5}) || !bytes.Equal(b, []byte{6, 7, 8, 9, 10}) {
		t.Error("Dot changed its arguments", a, b)
	}
}

func TestPowers(t *testing.T) {
	f := New()
	for a := range 256 {
		next, want := 0, byte(1)
		for i, p := range f.Powers(byte(a), 300) {
			if i != next || p != want {
				t.Fatalf("Powers(%d, 300): %d and %d, want %d and %d", a, i, p, next, want)
			}
			next++
			want = slowMul(want, byte(a))
		}
		if next != 300 {
			t.Errorf("Powers(%d, 300): %d pairs", a, next)
		}
	}
}

func TestPowersOfFew(t *testing.T) {
	f := New()
	for n := range 5 {
		var got []byte
		for _, p := range f.Powers(128, n) {
			got = append(got, p)
		}
		want := []byte{1, 128, slowMul(128, 128), slowPow(128, 3)}[:n]
		if !slices.Equal(got, want) {
			t.Errorf("Powers(128, %d): %v, want %v", n, got, want)
		}
	}
}

func TestPowersOfNone(t *testing.T) {
	f := New()
	for _, n := range []int{0, -1, -255, math.MinInt} {
		for i, p := range f.Powers(3, n) {
			t.Fatalf("Powers(3, %d): %d and %d, want none", n, i, p)
		}
	}
}

func TestPowersLeftBeforeTheirEnd(t *testing.T) {
	f := New()
	for _, n := range []int{10, math.MaxInt} {
		powers := f.Powers(2, n)
		for _, stop := range []int{0, 1, 8} { // left at its first pair, its second one, its ninth one; each range begins anew
			count := 0
			for i, p := range powers {
				if i != count || p != slowPow(2, uint64(i)) {
					t.Fatalf("Powers(2, %d): %d and %d at place %d", n, i, p, count)
				}
				count++
				if i == stop {
					break
				}
			}
			if count != stop+1 {
				t.Errorf("Powers(2, %d): %d pairs, left behind %d", n, count, stop+1)
			}
		}
	}
}

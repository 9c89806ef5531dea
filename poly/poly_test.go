package poly

import (
	"bytes"
	"math"
	"testing"

	"cuirass/api"
	"cuirass/gf"
)

// some are polynomials of all the shapes that the chapter names: none, noughts alone, noughts at the end, in the middle, at the beginning.
func some() [][]byte {
	return [][]byte{
		nil,
		{},
		{0},
		{0, 0, 0},
		{1},
		{7, 0},
		{0, 1},
		{0, 0, 5, 0, 0},
		{1, 1},
		{2, 1, 0},
		{2, 3, 1},
		{255, 0, 0, 128},
		{9, 8, 7, 6, 5, 4, 3, 2, 1},
		{9, 8, 7, 6, 5, 4, 3, 2, 1, 0, 0},
		long(40, 3),
		long(67, 11),
	}
}

// long is a polynomial of n elements that follow no simple rule.
func long(n int, seed uint32) []byte {
	p := make([]byte, n)
	for i := range p {
		seed = seed*1664525 + 1013904223
		p[i] = byte(seed >> 24)
	}
	return p
}

// at is the coefficient of z^i, of any i.
func at(p []byte, i int) byte {
	if i < 0 || i >= len(p) {
		return 0
	}
	return p[i]
}

// same tells whether two lists are one polynomial, and the first of them is trimmed.
func same(got, want []byte) bool {
	if len(got) > 0 && got[len(got)-1] == 0 {
		return false
	}
	for i := range max(len(got), len(want)) {
		if at(got, i) != at(want, i) {
			return false
		}
	}
	return true
}

// slowProduct sums, for each place by itself, all products of two whose places come to it.
func slowProduct(f *gf.Field, p, q []byte) []byte {
	product := make([]byte, len(p)+len(q))
	for n := range product {
		for i := 0; i <= n; i++ {
			product[n] ^= f.Mul(at(p, i), at(q, n-i))
		}
	}
	return product
}

// P2.1

func TestTrimAndDegree(t *testing.T) {
	for i, x := range []struct {
		p, want []byte
		degree  int
	}{
		{nil, nil, -1},
		{[]byte{}, nil, -1},
		{[]byte{0}, nil, -1},
		{[]byte{0, 0, 0}, nil, -1},
		{[]byte{1}, []byte{1}, 0},
		{[]byte{255, 0}, []byte{255}, 0},
		{[]byte{0, 1}, []byte{0, 1}, 1},
		{[]byte{0, 1, 0}, []byte{0, 1}, 1},
		{[]byte{3, 0, 0, 4, 0, 0}, []byte{3, 0, 0, 4}, 3},
		{[]byte{0, 0, 128}, []byte{0, 0, 128}, 2},
	} {
		if got := Trim(x.p); !bytes.Equal(got, x.want) {
			t.Errorf("%d: Trim(%v) = %v, want %v", i, x.p, got, x.want)
		}
		if got := Degree(x.p); got != x.degree {
			t.Errorf("%d: Degree(%v) = %d, want %d", i, x.p, got, x.degree)
		}
	}
}

func TestTrimAndDegreeOfTheLongest(t *testing.T) {
	p := make([]byte, 1<<12)
	if len(Trim(p)) != 0 || Degree(p) != -1 {
		t.Error("noughts alone:", len(Trim(p)), Degree(p))
	}
	p[len(p)-1] = 1
	if !bytes.Equal(Trim(p), p) || Degree(p) != 1<<12-1 {
		t.Error("1 at the end:", len(Trim(p)), Degree(p))
	}
}

func TestAdd(t *testing.T) {
	for i, x := range []struct{ p, q, want []byte }{
		{nil, nil, nil},
		{nil, []byte{}, nil},
		{nil, []byte{0, 0}, nil},
		{nil, []byte{4, 5, 0}, []byte{4, 5}},
		{[]byte{1, 2, 3}, []byte{1, 0, 3}, []byte{0, 2}},
		{[]byte{1, 2, 3}, []byte{1, 2, 3}, nil},
		{[]byte{1, 2, 3}, []byte{1, 2, 3, 0}, nil},
		{[]byte{1}, []byte{0, 0, 9}, []byte{1, 0, 9}},
		{[]byte{3, 3}, []byte{5}, []byte{6, 3}},
		{[]byte{3, 3}, []byte{5, 0, 0}, []byte{6, 3}},
		{[]byte{3, 3, 0}, []byte{5, 3}, []byte{6}},
	} {
		if got := Add(x.p, x.q); !bytes.Equal(got, x.want) {
			t.Errorf("%d: Add(%v, %v) = %v, want %v", i, x.p, x.q, got, x.want)
		}
		if got := Add(x.q, x.p); !bytes.Equal(got, x.want) {
			t.Errorf("%d: Add(%v, %v) = %v, want %v", i, x.q, x.p, got, x.want)
		}
	}
}

func TestAddOfAllPairs(t *testing.T) {
	for _, p := range some() {
		for _, q := range some() {
			want := make([]byte, 100)
			for i := range want {
				want[i] = at(p, i) ^ at(q, i)
			}
			if got := Add(p, q); !same(got, want) {
				t.Errorf("Add(%v, %v) = %v", p, q, got)
			}
		}
	}
}

func TestMul(t *testing.T) {
	f := gf.New()
	for i, x := range []struct{ p, q, want []byte }{
		{nil, nil, nil},
		{nil, []byte{2, 1}, nil},
		{[]byte{}, []byte{2, 1}, nil},
		{[]byte{0, 0}, []byte{2, 1}, nil},
		{[]byte{0, 0}, []byte{0}, nil},
		{[]byte{1}, []byte{2, 1}, []byte{2, 1}},
		{[]byte{1, 0, 0}, []byte{2, 1, 0}, []byte{2, 1}},
		{[]byte{1, 1}, []byte{2, 1}, []byte{2, 3, 1}},
		{[]byte{1, 1}, []byte{1, 1}, []byte{1, 0, 1}}, // the middle comes to nothing
		{[]byte{0, 1}, []byte{0, 0, 128}, []byte{0, 0, 0, 128}},
		{[]byte{128}, []byte{2}, []byte{29}},
	} {
		if got := Mul(f, x.p, x.q); !bytes.Equal(got, x.want) {
			t.Errorf("%d: Mul(%v, %v) = %v, want %v", i, x.p, x.q, got, x.want)
		}
		if got := Mul(f, x.q, x.p); !bytes.Equal(got, x.want) {
			t.Errorf("%d: Mul(%v, %v) = %v, want %v", i, x.q, x.p, got, x.want)
		}
	}
}

func TestMulOfAllPairs(t *testing.T) {
	f := gf.New()
	for _, p := range some() {
		for _, q := range some() {
			if got := Mul(f, p, q); !same(got, slowProduct(f, p, q)) {
				t.Errorf("Mul(%v, %v) = %v", p, q, got)
			}
		}
	}
}

func TestMulOfTheLongest(t *testing.T) {
	f := gf.New()
	p, q := long(1<<12, 1), long(1<<12, 2)
	p[len(p)-1], q[len(q)-1] = 1, 1
	product := Mul(f, p, q)
	if len(product) != 1<<13-1 {
		t.Fatal("length", len(product))
	}
	for x := range 256 {
		want := f.Mul(Eval(f, p, byte(x)), Eval(f, q, byte(x)))
		if got := Eval(f, product, byte(x)); got != want {
			t.Errorf("the product at %d is %d, want %d", x, got, want)
		}
	}
}

func TestScale(t *testing.T) {
	f := gf.New()
	for i, x := range []struct {
		p    []byte
		a    byte
		want []byte
	}{
		{nil, 3, nil},
		{[]byte{}, 3, nil},
		{[]byte{0, 0}, 3, nil},
		{[]byte{1, 2, 3}, 0, nil},
		{[]byte{1, 2, 3}, 1, []byte{1, 2, 3}},
		{[]byte{1, 2, 3, 0, 0}, 1, []byte{1, 2, 3}},
		{[]byte{1, 128}, 2, []byte{2, 29}},
		{[]byte{0, 128, 0}, 2, []byte{0, 29}},
	} {
		if got := Scale(f, x.p, x.a); !bytes.Equal(got, x.want) {
			t.Errorf("%d: Scale(%v, %d) = %v, want %v", i, x.p, x.a, got, x.want)
		}
	}
	for _, p := range some() {
		for a := range 256 {
			want := make([]byte, len(p))
			for i, b := range p {
				want[i] = f.Mul(b, byte(a))
			}
			if got := Scale(f, p, byte(a)); !same(got, want) {
				t.Errorf("Scale(%v, %d) = %v", p, a, got)
			}
		}
	}
}

func TestShift(t *testing.T) {
	for i, x := range []struct {
		p    []byte
		n    int
		want []byte
	}{
		{nil, 9, nil},
		{[]byte{}, 9, nil},
		{[]byte{0, 0}, 9, nil},
		{nil, -1, nil},
		{nil, 1 << 12, nil},
		{[]byte{7}, 2, []byte{0, 0, 7}},
		{[]byte{7, 0}, 2, []byte{0, 0, 7}},
		{[]byte{0, 7}, 1, []byte{0, 0, 7}},
		{[]byte{1, 2, 3}, 1, []byte{0, 1, 2, 3}},
		{[]byte{1, 2, 3}, 0, []byte{1, 2, 3}},
		{[]byte{1, 2, 3}, -1, []byte{1, 2, 3}},
		{[]byte{1, 2, 3, 0}, -4, []byte{1, 2, 3}},
		{[]byte{0, 2, 0}, 0, []byte{0, 2}},
		{[]byte{0, 0, 2}, math.MinInt, []byte{0, 0, 2}},
	} {
		if got := Shift(x.p, x.n); !bytes.Equal(got, x.want) {
			t.Errorf("%d: Shift(%v, %d) = %v, want %v", i, x.p, x.n, got, x.want)
		}
	}
}

func TestShiftOfTheLongest(t *testing.T) {
	p := long(1<<12, 5)
	p[len(p)-1] = 1
	got := Shift(p, 1<<12)
	if len(got) != 1<<13 || Degree(got[:1<<12]) != -1 || !bytes.Equal(got[1<<12:], p) {
		t.Error("Shift by 2^12: length", len(got))
	}
}

// P2.2

func TestMod(t *testing.T) {
	f := gf.New()
	for i, x := range []struct{ p, q, want []byte }{
		{nil, []byte{1, 1}, nil},
		{[]byte{}, []byte{0, 1}, nil},
		{[]byte{0, 0, 0}, []byte{1, 1}, nil},
		{[]byte{2, 3, 1, 0}, []byte{1, 1, 0}, nil},
		{[]byte{2, 3, 1}, []byte{2, 3, 1}, nil},
		{[]byte{5, 0, 0, 1}, []byte{0, 3}, []byte{5}},
		{[]byte{5, 6, 0, 1}, []byte{0, 0, 3, 0}, []byte{5, 6}},
		{[]byte{5, 0, 7, 1}, []byte{0, 0, 3}, []byte{5}}, // what is left is trimmed
		// By a constant nothing is left.
		{[]byte{1, 2, 3}, []byte{1}, nil},
		{[]byte{1, 2, 3}, []byte{9, 0, 0}, nil},
		{nil, []byte{9}, nil},
		// Of a lower degree than the divisor's: it is what is left.
		{[]byte{1, 2}, []byte{0, 0, 1}, []byte{1, 2}},
		{[]byte{1, 2, 0, 0, 0}, []byte{0, 0, 1}, []byte{1, 2}},
		{[]byte{4}, []byte{1, 1}, []byte{4}},
	} {
		if got, e := Mod(f, x.p, x.q); e != api.OK || !bytes.Equal(got, x.want) {
			t.Errorf("%d: Mod(%v, %v) = %v, %d, want %v, OK", i, x.p, x.q, got, e, x.want)
		}
	}
}

func TestModByNothing(t *testing.T) {
	f := gf.New()
	for _, p := range some() {
		for _, q := range [][]byte{nil, {}, {0}, {0, 0, 0}} {
			if got, e := Mod(f, p, q); len(got) != 0 || e != api.ErrZero {
				t.Errorf("Mod(%v, %v) = %v, %d, want nothing, ErrZero", p, q, got, e)
			}
		}
	}
}

// Each p is made as a product of q with something and a rest of a lower degree: no other rest has it.
func TestModOfAllPairs(t *testing.T) {
	f := gf.New()
	for _, q := range some() {
		if Degree(q) < 0 {
			continue
		}
		for _, times := range some() {
			for _, rest := range some() {
				if Degree(rest) >= Degree(q) {
					rest = rest[:Degree(q)]
				}
				p := slowProduct(f, q, times)
				p = append(p, make([]byte, max(0, len(rest)-len(p)))...)
				for i, b := range rest {
					p[i] ^= b
				}
				if got, e := Mod(f, p, q); e != api.OK || !same(got, rest) {
					t.Errorf("Mod(%v, %v) = %v, %d, want %v, OK", p, q, got, e, rest)
				}
			}
		}
	}
}

func TestModOfTheLongest(t *testing.T) {
	f := gf.New()
	p := long(1<<12, 7)
	// Divided by z less x, the value at x is left.
	for x := range 256 {
		got, e := Mod(f, p, []byte{byte(x), 1})
		if want := []byte{Eval(f, p, byte(x))}; e != api.OK || !same(got, want) {
			t.Errorf("Mod by z less %d = %v, %d, want %v, OK", x, got, e, want)
		}
	}
	q := long(1<<11, 8)
	q[len(q)-1] = 3
	got, e := Mod(f, p, q)
	if e != api.OK || Degree(got) >= Degree(q) || len(got) != Degree(got)+1 {
		t.Fatal("Mod by a long one:", len(got), e)
	}
	if again, e := Mod(f, Add(p, got), q); e != api.OK || len(again) != 0 {
		t.Error("p less what is left is no product of q:", again, e)
	}
}

func TestEval(t *testing.T) {
	f := gf.New()
	for _, p := range append(some(), long(1<<12, 9)) {
		for x := range 256 {
			want := byte(0)
			for i, b := range p {
				want ^= f.Mul(b, f.Pow(byte(x), i))
			}
			if got := Eval(f, p, byte(x)); got != want {
				t.Errorf("Eval(%v, %d) = %d, want %d", p, x, got, want)
			}
		}
	}
}

func TestEvalAtZero(t *testing.T) {
	f := gf.New()
	for i, x := range []struct {
		p    []byte
		want byte
	}{
		{nil, 0},
		{[]byte{}, 0},
		{[]byte{0, 0}, 0},
		{[]byte{8}, 8},
		{[]byte{8, 1, 2, 0}, 8},
		{[]byte{0, 1, 2}, 0},
	} {
		if got := Eval(f, x.p, 0); got != x.want {
			t.Errorf("%d: Eval(%v, 0) = %d, want %d", i, x.p, got, x.want)
		}
	}
}

func TestRoots(t *testing.T) {
	f := gf.New()
	for i, x := range []struct{ roots, want []byte }{
		{nil, []byte{1}},
		{[]byte{}, []byte{1}},
		{[]byte{0}, []byte{0, 1}},
		{[]byte{9}, []byte{9, 1}},
		{[]byte{0, 0, 0}, []byte{0, 0, 0, 1}},
		{[]byte{1, 2}, []byte{2, 3, 1}}, // the chapter's example
		{[]byte{2, 1}, []byte{2, 3, 1}},
		{[]byte{16, 16}, []byte{29, 0, 1}}, // the same root twice
		{[]byte{0, 7}, []byte{0, 7, 1}},
	} {
		if got := Roots(f, x.roots...); !bytes.Equal(got, x.want) {
			t.Errorf("%d: Roots(%v) = %v, want %v", i, x.roots, got, x.want)
		}
	}
	if got := Roots(f); !bytes.Equal(got, []byte{1}) {
		t.Errorf("Roots() = %v, want 1", got)
	}
}

func TestRootsAreWhereItIsZero(t *testing.T) {
	f := gf.New()
	roots := []byte{0, 1, 2, 29, 128, 255, 29}
	p := Roots(f, roots...)
	if Degree(p) != len(roots) || p[len(roots)] != 1 {
		t.Fatal("Roots:", p)
	}
	for x := range 256 {
		want := byte(1)
		for _, root := range roots {
			want = f.Mul(want, byte(x)^root)
		}
		if got := Eval(f, p, byte(x)); got != want {
			t.Errorf("at %d it is %d, want %d", x, got, want)
		}
	}
}

func TestRootsOfMany(t *testing.T) {
	f := gf.New()
	all := make([]byte, 256)
	for i := range all {
		all[i] = byte(i)
	}
	want := make([]byte, 257) // of all elements it is z^256 - z
	want[1], want[256] = 1, 1
	if got := Roots(f, all...); !bytes.Equal(got, want) {
		t.Errorf("Roots of all elements = %v", got)
	}
	many := make([]byte, 1<<12) // (z - 3)^(2^12) is z^(2^12) - 3^(2^12)
	for i := range many {
		many[i] = 3
	}
	want = make([]byte, 1<<12+1)
	want[0], want[1<<12] = f.Pow(3, 1<<12), 1
	if got := Roots(f, many...); !bytes.Equal(got, want) {
		t.Error("Roots of 3 taken 2^12 times")
	}
}

// The rules: what is handed in is neither changed nor kept, what is told is new memory; spare room too.

// calls answer each a list, of the two lists that it is given.
func calls(f *gf.Field) map[string]func(p, q []byte) []byte {
	return map[string]func(p, q []byte) []byte{
		"Trim":        func(p, q []byte) []byte { return Trim(p) },
		"Add":         Add,
		"Add once":    func(p, q []byte) []byte { return Add(p, nil) },
		"Add behind":  func(p, q []byte) []byte { return Add(nil, p) },
		"Mul":         func(p, q []byte) []byte { return Mul(f, p, q) },
		"Mul by 1":    func(p, q []byte) []byte { return Mul(f, p, []byte{1}) },
		"1 by Mul":    func(p, q []byte) []byte { return Mul(f, []byte{1}, p) },
		"Scale":       func(p, q []byte) []byte { return Scale(f, p, 3) },
		"Scale by 1":  func(p, q []byte) []byte { return Scale(f, p, 1) },
		"Scale by 0":  func(p, q []byte) []byte { return Scale(f, p, 0) },
		"Shift":       func(p, q []byte) []byte { return Shift(p, 2) },
		"Shift by 0":  func(p, q []byte) []byte { return Shift(p, 0) },
		"Shift below": func(p, q []byte) []byte { return Shift(p, -1) },
		"Mod":         func(p, q []byte) []byte { r, _ := Mod(f, p, q); return r },
		"Mod of less": func(p, q []byte) []byte { r, _ := Mod(f, q, p); return r },
		"Roots":       func(p, q []byte) []byte { return Roots(f, p...) },
		"Eval":        func(p, q []byte) []byte { Eval(f, p, 3); return nil },
		"Degree":      func(p, q []byte) []byte { Degree(p); return nil },
	}
}

// fill writes all over a list and its spare room.
func fill(p []byte, b byte) {
	p = p[:cap(p)]
	for i := range p {
		p[i] = b
	}
}

func TestArgumentsStayAndAnswersAreNew(t *testing.T) {
	f := gf.New()
	for name, call := range calls(f) {
		for _, n := range []int{0, 2, 4, 6, 8} { // in places with spare room behind them, noughts at the end too
			roomP := []byte{1, 2, 3, 4, 0, 0, 7, 8, 9, 9}
			roomQ := []byte{5, 6, 0, 9, 9, 9}
			keptP, keptQ := bytes.Clone(roomP), bytes.Clone(roomQ)
			p, q := roomP[:n], roomQ[:3]
			first := call(p, q)
			second := call(p, q)
			if !bytes.Equal(roomP, keptP) || !bytes.Equal(roomQ, keptQ) {
				t.Fatalf("%s changed its arguments: %v, %v", name, roomP, roomQ)
			}
			was := bytes.Clone(first)
			fill(second, 0xaa)
			fill(roomP, 0xbb)
			fill(roomQ, 0xcc)
			if !bytes.Equal(first, was) {
				t.Errorf("%s of %d: an answer changed with an argument, or another answer: %v, was %v", name, n, first, was)
			}
			fill(first, 0xdd)
			if bytes.Contains(roomP, []byte{0xdd}) || bytes.Contains(roomQ, []byte{0xdd}) || bytes.Contains(second, []byte{0xdd}) {
				t.Errorf("%s of %d: an answer shares memory", name, n)
			}
		}
	}
}

func TestTheSameListTwice(t *testing.T) {
	f := gf.New()
	p := []byte{2, 3, 1, 0}
	if got := Add(p, p); len(got) != 0 {
		t.Errorf("Add(p, p) = %v", got)
	}
	if got := Mul(f, p, p); !bytes.Equal(got, []byte{4, 0, 5, 0, 1}) {
		t.Errorf("Mul(p, p) = %v", got)
	}
	if got, e := Mod(f, p, p); len(got) != 0 || e != api.OK {
		t.Errorf("Mod(p, p) = %v, %d", got, e)
	}
	if !bytes.Equal(p, []byte{2, 3, 1, 0}) {
		t.Errorf("p changed: %v", p)
	}
}

// Package gf is layer 1: see shared/doc/01-gf.md.
package gf

import (
	"cuirass/api"
	"iter"
)

// order is how many elements but 0 there are: the powers of x come round behind so many.
const order = 255

// rest is what x^8 leaves when it is divided by x^8 + x^4 + x^3 + x^2 + 1.
const rest = 0x1d

// Field is the field, with its tables.
type Field struct {
	exp [order]byte     // by the logarithm: the element
	log [order + 1]byte // by the element: the logarithm (of 0 it means nothing)
}

// New is the field.
func New() *Field {
	f := &Field{}
	power := byte(1)
	for n := range order {
		f.exp[n] = power
		f.log[power] = byte(n)
		power = timesX(power)
	}
	return f
}

// timesX works without the tables, for it is what fills them.
func timesX(a byte) byte {
	if a&0x80 != 0 {
		return a<<1 ^ rest
	}
	return a << 1
}

// Exp is a power of x.
func (f *Field) Exp(n int) byte {
	n %= order
	if n < 0 { // the remainder has the sign of n
		n += order
	}
	return f.exp[n]
}

// Log is an element's logarithm.
func (f *Field) Log(a byte) (int, api.Errno) {
	if a == 0 {
		return 0, api.ErrZero
	}
	return int(f.log[a]), api.OK
}

// Mul is a product.
func (f *Field) Mul(a, b byte) byte {
	if a == 0 || b == 0 {
		return 0
	}
	return f.Exp(int(f.log[a]) + int(f.log[b]))
}

// Div is a quotient.
func (f *Field) Div(a, b byte) (byte, api.Errno) {
	if b == 0 {
		return 0, api.ErrZero
	}
	if a == 0 {
		return 0, api.OK
	}
	return f.Exp(int(f.log[a]) - int(f.log[b])), api.OK
}

// Inv is 1 divided by an element.
func (f *Field) Inv(a byte) (byte, api.Errno) {
	return f.Div(1, a)
}

// Pow is an element taken so many times.
func (f *Field) Pow(a byte, n int) byte {
	if n <= 0 {
		return 1
	}
	if a == 0 {
		return 0
	}
	// n is made small first, so that the product of the two doesn't wrap round.
	return f.Exp(int(f.log[a]) * (n % order))
}

// Dot is the sum of products.
func (f *Field) Dot(a, b []byte) byte {
	sum := byte(0)
	for i := range min(len(a), len(b)) {
		sum ^= f.Mul(a[i], b[i])
	}
	return sum
}

// Powers are an element's powers.
func (f *Field) Powers(a byte, n int) iter.Seq2[int, byte] {
	return func(yield func(int, byte) bool) {
		power := byte(1) // in here, so that each range begins anew
		for i := range n {
			if !yield(i, power) {
				return
			}
			power = f.Mul(power, a)
		}
	}
}

// Package field is layer 1, the field of 256 elements: see shared/doc/01-field.md.
package field

import (
	"sync"

	"patina/api"
)

const (
	elements = 256          // of the field, 0 among them
	period   = elements - 1 // the powers of the root come round behind so many
	modulus  = 0x11d        // x^8 + x^4 + x^3 + x^2 + 1
)

// Field is the field of 256 elements, with its tables.
type Field struct {
	once   sync.Once // several goroutines may ask first
	powers [period]byte
	logs   [elements]int // the one of 0 means nothing: 0 is no power
}

// New is the field.
func New() *Field { return &Field{} }

// Mul is the product.
func (f *Field) Mul(a, b byte) byte {
	if a == 0 || b == 0 {
		return 0
	}
	f.ready()
	return f.powers[(f.logs[a]+f.logs[b])%period]
}

// Inv is the element with which a makes 1.
func (f *Field) Inv(a byte) (byte, error) {
	k, err := f.Log(a)
	if err != nil {
		return 0, err
	}
	return f.Exp(-k), nil
}

// Div is a divided by b.
func (f *Field) Div(a, b byte) (byte, error) {
	inverse, err := f.Inv(b)
	if err != nil {
		return 0, err
	}
	return f.Mul(a, inverse), nil
}

// Exp is the k-th power of the element 2.
func (f *Field) Exp(k int) byte {
	f.ready()
	// The remainder is taken ahead of the sign: -k would leave 64 bits at -2^63.
	k %= period
	if k < 0 {
		k += period
	}
	return f.powers[k]
}

// Log is which power of the element 2 a is.
func (f *Field) Log(a byte) (int, error) {
	if a == 0 {
		return 0, api.ErrZero
	}
	f.ready()
	return f.logs[a], nil
}

// Eval is the polynomial p at x, the highest coefficient first.
func (f *Field) Eval(p []byte, x byte) byte {
	var sum byte
	for _, c := range p {
		sum = f.Mul(sum, x) ^ c
	}
	return sum
}

// Times is the product of two polynomials.
func (f *Field) Times(p, q []byte) []byte {
	if len(p) == 0 || len(q) == 0 {
		return nil
	}
	product := make([]byte, len(p)+len(q)-1)
	for i, a := range p {
		for j, b := range q {
			product[i+j] ^= f.Mul(a, b)
		}
	}
	return product
}

// ready stands ahead of every look into the tables: whoever asks first makes them.
func (f *Field) ready() { f.once.Do(f.fill) }

// fill makes the tables.
func (f *Field) fill() {
	power := 1
	for k := range period {
		f.powers[k] = byte(power)
		f.logs[power] = k
		power <<= 1
		if power >= elements {
			power ^= modulus
		}
	}
}

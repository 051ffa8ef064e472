package world

import "patina/api"

// roots is how many powers of the field's root, from the lowest on, a codeword is 0 at: one for each symbol of its parity.
const roots = api.Word - api.Message

// isCodeword tells whether a word is a codeword. The codec isn't one of the layers that this one stands on; and nothing is put right here: a word's values tell it, without the field's tables.
func isCodeword(word []byte) bool {
	for power := range roots {
		if valueAt(word, power) != 0 {
			return false
		}
	}
	return true
}

// valueAt is the value of a word, as a polynomial, at a power of the field's root.
func valueAt(word []byte, power int) byte {
	var value byte
	for _, symbol := range word {
		for range power {
			value = timesRoot(value)
		}
		value ^= symbol
	}
	return value
}

// timesRoot is the product of an element of the field and its root, x, less the field's polynomial where it comes to x^8.
func timesRoot(a byte) byte {
	if a&0x80 == 0 {
		return a << 1
	}
	return a<<1 ^ 0x1d
}

// Package crc is layer 1: see shared/doc/01-crc.md.
package crc

const (
	first = 1<<32 - 1  // the word ahead of all bytes
	poly  = 0xEDB88320 // what a bit that falls out adds to the word
)

// Sum is the sum of bytes; More that of bytes behind some whose sum it is.
func Sum(b []byte) uint32 { return from(first)(b) }

func More(sum uint32, b []byte) uint32 {
	// A sum is the word with its bits turned: turned back, it is the word behind whichever bytes have that sum.
	return from(^sum)(b)
}

// from is a function that goes through bytes, from a word on that it alone has, and tells their sum.
func from(word uint32) func([]byte) uint32 {
	return func(b []byte) uint32 {
		for _, c := range b {
			word = through(word ^ uint32(c))
		}
		return ^word
	}
}

// through is the word behind the eight bits that fall out of it for a byte.
func through(word uint32) uint32 {
	for range 8 {
		out := word & 1
		word >>= 1
		if out == 1 {
			word ^= poly
		}
	}
	return word
}

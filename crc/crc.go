// Package crc is layer 1: see shared/doc/01-crc.md.
package crc

import "pacesetter/api"

// turner is what the word is turned by when the bit that falls out of it is 1.
const turner = 0xEDB88320

// width is how many bytes a check has.
const width = 4

// effects holds what each byte does to a word: the word of that byte alone, moved down by 8 bits. A word's higher bits are only moved meanwhile, so a lookup by its lowest byte stands for 8 single moves.
type effects [256]uint32

// makeEffects works the array out anew for each call, since a table of 256 words is too great to stand at package level. Short bytes are checked most, so it must be cheap: only single bits are moved, and a byte of several bits does what its bits do, one turned by the other.
func makeEffects() effects {
	var t effects
	for bit := 1; bit < len(t); bit *= 2 {
		single := moveByte(uint32(bit))
		for rest := range bit {
			t[bit+rest] = single ^ t[rest]
		}
	}
	return t
}

// moveByte moves a word down by 8 bits, one at a time.
func moveByte(word uint32) uint32 {
	for range 8 {
		out := word & 1
		word >>= 1
		if out == 1 {
			word ^= turner
		}
	}
	return word
}

// Sum is the check of the bytes.
func Sum(b []byte) uint32 {
	return More(0, b)
}

// More is the check of bytes whose check is sum, and b behind them.
func More(sum uint32, b []byte) uint32 {
	if len(b) == 0 {
		return sum
	}
	t := makeEffects()
	word := ^sum // a check is told with all bits turned: this is the word as it was ahead of that
	for _, x := range b {
		word = word>>8 ^ t[byte(word)^x]
	}
	return ^word
}

// Bytes is the check as four bytes, the highest first.
func Bytes(sum uint32) []byte {
	return []byte{byte(sum >> 24), byte(sum >> 16), byte(sum >> 8), byte(sum)}
}

// Read is the check that four bytes tell.
func Read(b []byte) (uint32, api.Errno) {
	if len(b) != width {
		return 0, api.ErrForm
	}
	return uint32(b[0])<<24 | uint32(b[1])<<16 | uint32(b[2])<<8 | uint32(b[3]), api.OK
}

// Good tells whether the last four bytes are the check of those ahead of them.
func Good(b []byte) bool {
	if len(b) < width {
		return false
	}
	end := len(b) - width
	sum, e := Read(b[end:])
	return e == api.OK && sum == Sum(b[:end])
}

// Seal is the bytes, with their check behind, in new memory.
func Seal(b []byte) []byte {
	sealed := make([]byte, 0, len(b)+width)
	sealed = append(sealed, b...)
	return append(sealed, Bytes(Sum(b))...)
}

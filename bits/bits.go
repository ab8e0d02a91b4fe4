// Package bits is layer 1: bits that are turned and laid. See shared/doc/01-bits.md.
package bits

import "slices"

// word is a number of either width in which the hashes and heads count.
type word interface{ uint32 | uint64 }

// right leans on both widths dividing 2^64: an n below 0 is, as a uint, the same
// number modulo the width, so that turning to the left needs no case of its own.
func right[W word](x W, n, width int) W {
	k := uint(n) % uint(width)
	return x>>k | x<<(uint(width)-k)
}

// number takes as many bytes as there are, since those that are too many fall out above.
func number[W word](b []byte) W {
	var x W
	for _, c := range b {
		x = x<<8 | W(c)
	}
	return x
}

// lay fills b from the least byte on; who wants the greatest one first turns b round.
func lay[W word](b []byte, x W) {
	for i := range b {
		b[i] = byte(x)
		x >>= 8
	}
}

// Right32 turns x to the right by n.
func Right32(x uint32, n int) uint32 { return right(x, n, 32) }

// Right64 turns x to the right by n.
func Right64(x uint64, n int) uint64 { return right(x, n, 64) }

// Big32 is the number of the first 4 bytes of b, the greatest one first.
func Big32(b []byte) uint32 {
	var first [4]byte // missing bytes stay 0
	copy(first[:], b)
	return number[uint32](first[:])
}

// PutBig32 are the bytes of which Big32 is x.
func PutBig32(x uint32) []byte {
	b := make([]byte, 4)
	lay(b, x)
	slices.Reverse(b)
	return b
}

// Little64 is the number of the first 8 bytes of b, the least one first.
func Little64(b []byte) uint64 {
	var first [8]byte // missing bytes stay 0
	copy(first[:], b)
	slices.Reverse(first[:])
	return number[uint64](first[:])
}

// PutLittle64 are the bytes of which Little64 is x.
func PutLittle64(x uint64) []byte {
	b := make([]byte, 8)
	lay(b, x)
	return b
}

// PutBig64 are the 8 bytes of which Big is x.
func PutBig64(x uint64) []byte {
	b := make([]byte, 8)
	lay(b, x)
	slices.Reverse(b)
	return b
}

// Big is the number of all bytes of b, the greatest one first, modulo 2^64.
func Big(b []byte) uint64 { return number[uint64](b) }

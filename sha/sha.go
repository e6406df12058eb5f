// Package sha is layer 2, the hash SHA-256: see shared/doc/02-sha.md.
package sha

import "math/bits"

// firstWords are the eight words that the first block brings on.
var firstWords = [8]uint32{
	0x6a09e667, 0xbb67ae85, 0x3c6ef372, 0xa54ff53a, 0x510e527f, 0x9b05688c, 0x1f83d9ab, 0x5be0cd19,
}

// roundWords are the round's words.
var roundWords = [64]uint32{
	0x428a2f98, 0x71374491, 0xb5c0fbcf, 0xe9b5dba5, 0x3956c25b, 0x59f111f1, 0x923f82a4, 0xab1c5ed5,
	0xd807aa98, 0x12835b01, 0x243185be, 0x550c7dc3, 0x72be5d74, 0x80deb1fe, 0x9bdc06a7, 0xc19bf174,
	0xe49b69c1, 0xefbe4786, 0x0fc19dc6, 0x240ca1cc, 0x2de92c6f, 0x4a7484aa, 0x5cb0a9dc, 0x76f988da,
	0x983e5152, 0xa831c66d, 0xb00327c8, 0xbf597fc7, 0xc6e00bf3, 0xd5a79147, 0x06ca6351, 0x14292967,
	0x27b70a85, 0x2e1b2138, 0x4d2c6dfc, 0x53380d13, 0x650a7354, 0x766a0abb, 0x81c2c92e, 0x92722c85,
	0xa2bfe8a1, 0xa81a664b, 0xc24b8b70, 0xc76c51a3, 0xd192e819, 0xd6990624, 0xf40e3585, 0x106aa070,
	0x19a4c116, 0x1e376c08, 0x2748774c, 0x34b0bcb5, 0x391c0cb3, 0x4ed8aa4a, 0x5b9cca4f, 0x682e6ff3,
	0x748f82ee, 0x78a5636f, 0x84c87814, 0x8cc70208, 0x90befffa, 0xa4506ceb, 0xbef9a3f7, 0xc67178f2,
}

// Hash is bytes so far: those of whole blocks are in its words, the others are held.
type Hash struct {
	words [8]uint32
	block [64]byte
	held  int    // how many bytes of the block are there
	many  uint64 // how many bytes there were in all
}

// Step brings eight words on by a block.
func Step(h [8]uint32, block [64]byte) [8]uint32 {
	row := spread(block)
	was := h
	for i, w := range row {
		h = round(h, roundWords[i]+w)
	}
	for i, w := range was {
		h[i] += w
	}
	return h
}

// New is a hash of no bytes.
func New() *Hash { return &Hash{words: firstWords} }

// Write puts parts behind what was written.
func (h *Hash) Write(parts ...[]byte) {
	if h == nil {
		return
	}
	for _, part := range parts {
		h.take(part)
	}
}

// Sum is the sum of what was written. It ends nothing.
func (h *Hash) Sum() [32]byte {
	if h == nil {
		return [32]byte{}
	}
	end := *h // what is put behind is not for later bytes
	end.close()
	var sum [32]byte
	for i := range sum {
		sum[i] = byte(end.words[i/4] >> (24 - 8*(i%4)))
	}
	return sum
}

// Sum is the sum of parts, one behind the other.
func Sum(parts ...[]byte) [32]byte {
	h := New()
	h.Write(parts...)
	return h.Sum()
}

// take puts bytes behind, and brings the words on by each block that is whole.
func (h *Hash) take(part []byte) {
	h.many += uint64(len(part))
	for len(part) > 0 {
		n := copy(h.block[h.held:], part)
		part = part[n:]
		h.held += n
		if h.held == len(h.block) {
			h.words = Step(h.words, h.block)
			h.held = 0
		}
	}
}

// close puts behind what fills the last block.
func (h *Hash) close() {
	length := 8 * h.many // ahead of the bytes that are put behind, which do not count
	h.take([]byte{128})
	for h.held != len(h.block)-8 {
		h.take([]byte{0})
	}
	for i := range 8 {
		h.take([]byte{byte(length >> (56 - 8*i))})
	}
}

// spread is a block's row of 64 words.
func spread(block [64]byte) [64]uint32 {
	var w [64]uint32
	for i, c := range block {
		w[i/4] = w[i/4]<<8 | uint32(c)
	}
	for i := 16; i < len(w); i++ {
		a, b := w[i-15], w[i-2]
		s0 := turn(a, 7) ^ turn(a, 18) ^ a>>3
		s1 := turn(b, 17) ^ turn(b, 19) ^ b>>10
		w[i] = w[i-16] + s0 + w[i-7] + s1
	}
	return w
}

// round is one round, of a round's word and a row's word together.
func round(h [8]uint32, word uint32) [8]uint32 {
	a, b, c, e, f, g := h[0], h[1], h[2], h[4], h[5], h[6]
	s1 := turn(e, 6) ^ turn(e, 11) ^ turn(e, 25)
	x := h[7] + s1 + (e&f ^ ^e&g) + word
	s0 := turn(a, 2) ^ turn(a, 13) ^ turn(a, 22)
	y := s0 + (a&b ^ a&c ^ b&c)
	return [8]uint32{x + y, a, b, c, h[3] + x, e, f, g}
}

// turn turns a word to the right.
func turn(word uint32, by int) uint32 { return bits.RotateLeft32(word, -by) }

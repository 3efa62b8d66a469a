package sha

import "math/bits"

const (
	wordSize   = 4
	blockWords = 16
	blockSize  = blockWords * wordSize
	lengthSize = 8 // of the count of bits that ends the last block
	rounds     = 64
)

// hash is what all blocks so far were mixed to.
type hash [Size / wordSize]uint32

// begun is the first 32 bits behind the point of the square roots of the first
// eight primes.
func begun() hash {
	return hash{
		0x6a09e667, 0xbb67ae85, 0x3c6ef372, 0xa54ff53a,
		0x510e527f, 0x9b05688c, 0x1f83d9ab, 0x5be0cd19,
	}
}

// roundWords are the first 32 bits behind the point of the cube roots of the
// first 64 primes.
var roundWords = [rounds]uint32{
	0x428a2f98, 0x71374491, 0xb5c0fbcf, 0xe9b5dba5, 0x3956c25b, 0x59f111f1, 0x923f82a4, 0xab1c5ed5,
	0xd807aa98, 0x12835b01, 0x243185be, 0x550c7dc3, 0x72be5d74, 0x80deb1fe, 0x9bdc06a7, 0xc19bf174,
	0xe49b69c1, 0xefbe4786, 0x0fc19dc6, 0x240ca1cc, 0x2de92c6f, 0x4a7484aa, 0x5cb0a9dc, 0x76f988da,
	0x983e5152, 0xa831c66d, 0xb00327c8, 0xbf597fc7, 0xc6e00bf3, 0xd5a79147, 0x06ca6351, 0x14292967,
	0x27b70a85, 0x2e1b2138, 0x4d2c6dfc, 0x53380d13, 0x650a7354, 0x766a0abb, 0x81c2c92e, 0x92722c85,
	0xa2bfe8a1, 0xa81a664b, 0xc24b8b70, 0xc76c51a3, 0xd192e819, 0xd6990624, 0xf40e3585, 0x106aa070,
	0x19a4c116, 0x1e376c08, 0x2748774c, 0x34b0bcb5, 0x391c0cb3, 0x4ed8aa4a, 0x5b9cca4f, 0x682e6ff3,
	0x748f82ee, 0x78a5636f, 0x84c87814, 0x8cc70208, 0x90befffa, 0xa4506ceb, 0xbef9a3f7, 0xc67178f2,
}

// words reads a block. One that is not full ends with the bit by which every
// message ends; what follows is noughts.
func words(b []byte) [blockWords]uint32 {
	var block [blockWords]uint32
	i := 0
	for ; len(b) >= wordSize; b = b[wordSize:] {
		block[i] = uint32(b[0])<<24 | uint32(b[1])<<16 | uint32(b[2])<<8 | uint32(b[3])
		i++
	}
	if i < blockWords {
		block[i] = lastWord(b)
	}
	return block
}

// lastWord is the word of the last bytes, fewer than a whole word has, and of
// the bit behind them.
func lastWord(b []byte) uint32 {
	w := uint32(0x80) << (24 - 8*len(b))
	switch len(b) {
	case 3:
		w |= uint32(b[2]) << 8
		fallthrough
	case 2:
		w |= uint32(b[1]) << 16
		fallthrough
	case 1:
		w |= uint32(b[0]) << 24
	}
	return w
}

// mix takes one block more into h.
func (h *hash) mix(block [blockWords]uint32) {
	w := spread(block)
	a, b, c, d, e, f, g, last := h[0], h[1], h[2], h[3], h[4], h[5], h[6], h[7]
	for i := range rounds {
		turned := bits.RotateLeft32(e, -6) ^ bits.RotateLeft32(e, -11) ^ bits.RotateLeft32(e, -25)
		chosen := e&f ^ ^e&g
		one := last + turned + chosen + roundWords[i] + w[i]
		turned = bits.RotateLeft32(a, -2) ^ bits.RotateLeft32(a, -13) ^ bits.RotateLeft32(a, -22)
		most := a&b ^ a&c ^ b&c
		a, b, c, d, e, f, g, last = one+turned+most, a, b, c, d+one, e, f, g
	}
	for i, x := range (hash{a, b, c, d, e, f, g, last}) {
		h[i] += x
	}
}

// spread makes a word for each round from those of the block.
func spread(block [blockWords]uint32) [rounds]uint32 {
	var w [rounds]uint32
	copy(w[:], block[:])
	for i := blockWords; i < rounds; i++ {
		x, y := w[i-15], w[i-2]
		x = bits.RotateLeft32(x, -7) ^ bits.RotateLeft32(x, -18) ^ x>>3
		y = bits.RotateLeft32(y, -17) ^ bits.RotateLeft32(y, -19) ^ y>>10
		w[i] = w[i-16] + x + w[i-7] + y
	}
	return w
}

// bytes is h with the high byte of each word first.
func (h *hash) bytes() []byte {
	b := make([]byte, 0, Size)
	for _, w := range h {
		b = append(b, byte(w>>24), byte(w>>16), byte(w>>8), byte(w))
	}
	return b
}

package sha

import "math/bits"

const (
	blockSize  = 64                     // bytes of a block
	lengthSize = 8                      // bytes of the length, with which the last block ends
	lengthAt   = blockSize - lengthSize // where the length stands in the last block
	endMark    = 0x80                   // the byte right behind what is hashed
	wordSize   = 4                      // bytes of a word
	blockWords = blockSize / wordSize   // words of a block
	rounds     = 64                     // words that a block is made into, and words K
	hashWords  = 8                      // words of a hash
	hashSize   = hashWords * wordSize   // bytes of a hash
)

// ending: what is hashed behind so many bytes.
func ending(size uint64) []byte {
	// The mark and the bytes 0 together; one block is added so that this doesn't fall below 0.
	gap := (blockSize+lengthAt-1-size%blockSize)%blockSize + 1
	out := make([]byte, gap+lengthSize)
	out[0] = endMark
	length := 8 * size
	for i := range lengthSize {
		out[len(out)-1-i] = byte(length >> (8 * i))
	}
	return out
}

// mix: the words behind a block, from those ahead of it.
func mix(old [hashWords]uint32, block []byte, k [rounds]uint32) [hashWords]uint32 {
	w := schedule(block)
	a, b, c, d := old[0], old[1], old[2], old[3]
	e, f, g, h := old[4], old[5], old[6], old[7]
	for i := range rounds {
		t1 := h + (rotr(e, 6) ^ rotr(e, 11) ^ rotr(e, 25)) + (e&f ^ ^e&g) + k[i] + w[i]
		t2 := (rotr(a, 2) ^ rotr(a, 13) ^ rotr(a, 22)) + (a&b ^ a&c ^ b&c)
		h, g, f, e = g, f, e, d+t1
		d, c, b, a = c, b, a, t1+t2
	}
	return [hashWords]uint32{
		old[0] + a, old[1] + b, old[2] + c, old[3] + d,
		old[4] + e, old[5] + f, old[6] + g, old[7] + h,
	}
}

// schedule: a block's W.
func schedule(block []byte) [rounds]uint32 {
	var w [rounds]uint32
	for i := range blockWords {
		for _, digit := range block[i*wordSize : (i+1)*wordSize] {
			w[i] = w[i]<<8 | uint32(digit)
		}
	}
	for i := blockWords; i < rounds; i++ {
		early, late := w[i-15], w[i-2]
		s0 := rotr(early, 7) ^ rotr(early, 18) ^ early>>3
		s1 := rotr(late, 17) ^ rotr(late, 19) ^ late>>10
		w[i] = w[i-16] + s0 + w[i-7] + s1
	}
	return w
}

// spread: words as bytes.
func spread(words [hashWords]uint32) [hashSize]byte {
	var out [hashSize]byte
	for i := range out {
		place := wordSize - 1 - i%wordSize
		out[i] = byte(words[i/wordSize] >> (8 * place))
	}
	return out
}

// rotr: a word's bits moved to the right, those that fall out coming in from the left.
func rotr(word uint32, by int) uint32 { return bits.RotateLeft32(word, -by) }

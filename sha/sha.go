// Package sha is layer 1, the hash SHA-256: see shared/doc/01-sha.md.
package sha

import "pennant/api"

const (
	blockSize = 64
	sumSize   = 32
	lenSize   = 8
	headSize  = sumSize + lenSize // of a Save: what stands ahead of the part
	maxLen    = 1 << 40           // of a hash that is loaded
)

// Hash is one that goes on. Its part holds what is no whole block yet, and noughts behind that.
type Hash struct {
	words  [8]uint32
	part   [blockSize]byte
	length uint64 // by 64 bits, as it is written down
}

// Sum is the hash of bytes.
func Sum(b []byte) [32]byte {
	h := New()
	h.Write(b)
	return h.Sum()
}

// New is one of nothing.
func New() *Hash { return &Hash{words: firstWords} }

// Write puts bytes behind.
func (h *Hash) Write(b []byte) {
	for len(b) > 0 {
		n := copy(h.part[h.length%blockSize:], b)
		b = b[n:]
		h.length += uint64(n)
		if h.length%blockSize == 0 {
			h.words = take(h.words, h.part)
			h.part = [blockSize]byte{} // so that like texts leave like hashes, whatever their parts were
		}
	}
}

// Sum is the hash of all so far. The end is written to a copy, so that h can go on.
func (h *Hash) Sum() [32]byte {
	whole := *h
	whole.Write(ending(h.length))
	return wordBytes(whole.words)
}

// Len is how many bytes were written.
func (h *Hash) Len() int { return int(h.length) }

// Save is it as bytes.
func (h *Hash) Save() []byte {
	words := wordBytes(h.words)
	out := appendNumber(words[:], h.length)
	return append(out, h.part[:h.length%blockSize]...)
}

// Load is one of a Save again.
func Load(b []byte) (*Hash, api.Errno) {
	if len(b) < headSize {
		return nil, api.ErrForm
	}
	length := number(b[sumSize:headSize])
	part := b[headSize:]
	if length > maxLen || uint64(len(part)) != length%blockSize {
		return nil, api.ErrForm
	}
	h := &Hash{length: length}
	for i := range h.words {
		h.words[i] = uint32(number(b[4*i : 4*i+4]))
	}
	copy(h.part[:], part)
	return h, api.OK
}

// ending is what stands behind length bytes, up to a whole block.
func ending(length uint64) []byte {
	const marked = blockSize - lenSize - 1 // the mark fits here, with no nought behind it
	noughts := (blockSize + marked - length%blockSize) % blockSize
	out := make([]byte, 1+noughts)
	out[0] = 128
	return appendNumber(out, 8*length)
}

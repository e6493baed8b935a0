package manifest_test

import (
	"bytes"
	"crypto/sha256"
	"slices"

	"pennant/api"
)

// This is the chapter again, by other means: the hash is the library's, the sum goes bit by bit, bytes are laid out by hand.

// sum24 is the check sum, bit by bit.
func sum24(b []byte) uint32 {
	sum := uint32(0xB704CE)
	for _, x := range b {
		sum ^= uint32(x) << 16
		for range 8 {
			sum *= 2
			if sum >= 1<<24 {
				sum ^= 0x1864CFB
			}
		}
	}
	return sum
}

// cut is a text's pieces of n bytes, the last one what is left.
func cut(b []byte, n int) [][]byte { return slices.Collect(slices.Chunk(b, n)) }

// needs is how many chunks a size needs, counted one by one.
func needs(size, chunk int) int {
	n := 0
	for size > 0 {
		size -= chunk
		n++
	}
	return n
}

// numbersMay tells whether there are manifests of these numbers.
func numbersMay(version, size, chunk int) bool {
	return version >= 1 && version <= 1<<30 && size >= 1 && size <= 1<<15 && chunk >= 16 && chunk <= 1024 && needs(size, chunk) <= 128
}

func may(m api.Manifest) bool {
	if !numbersMay(m.Version, m.Size, m.Chunk) || len(m.Sums) != needs(m.Size, m.Chunk) {
		return false
	}
	for _, sum := range m.Sums {
		if sum > 0xFFFFFF {
			return false
		}
	}
	return true
}

// modelMake is the manifest of an image, if one may be.
func modelMake(version int, image []byte, chunk int) (api.Manifest, bool) {
	if !numbersMay(version, len(image), chunk) {
		return api.Manifest{}, false
	}
	m := api.Manifest{Version: version, Size: len(image), Chunk: chunk, Hash: sha256.Sum256(image)}
	for _, c := range cut(image, chunk) {
		m.Sums = append(m.Sums, sum24(c))
	}
	return m, true
}

// low puts the n lowest bytes of a number behind bytes, the lowest first.
func low(b []byte, x, n int) []byte {
	for range n {
		b = append(b, byte(x))
		x >>= 8
	}
	return b
}

// layOut is a manifest as bytes, whether it may be or not.
func layOut(m api.Manifest) []byte {
	b := low(nil, m.Version-1, 4)
	b = low(b, m.Size-1, 2)
	b = low(b, m.Chunk-16, 2)
	b = append(b, 0) // 32 bytes less 32
	b = append(b, m.Hash[:]...)
	b = low(b, len(m.Sums)-1, 1)
	for _, sum := range m.Sums {
		b = low(b, int(sum), 3)
	}
	return b
}

// The places of layOut.
const (
	versionAt = 0
	sizeAt    = 4
	chunkAt   = 6
	hashLenAt = 8
	hashAt    = 9
	countAt   = 41
	sumsAt    = 42
)

func number(b []byte) int {
	n := 0
	for i, x := range b {
		n += int(x) << (8 * i)
	}
	return n
}

// modelDecode is the manifest of which b is the Encode, if there is one.
func modelDecode(b []byte) (api.Manifest, bool) {
	if len(b) < sumsAt || b[hashLenAt] != 0 {
		return api.Manifest{}, false
	}
	m := api.Manifest{
		Version: number(b[versionAt:sizeAt]) + 1,
		Size:    number(b[sizeAt:chunkAt]) + 1,
		Chunk:   number(b[chunkAt:hashLenAt]) + 16,
		Hash:    [32]byte(b[hashAt:countAt]),
	}
	count := int(b[countAt]) + 1
	if len(b) != sumsAt+3*count {
		return api.Manifest{}, false
	}
	for _, s := range cut(b[sumsAt:], 3) {
		m.Sums = append(m.Sums, uint32(number(s)))
	}
	if !may(m) {
		return api.Manifest{}, false
	}
	return m, true
}

// same tells whether two manifests are alike, nil and empty being the same.
func same(m, w api.Manifest) bool {
	return m.Version == w.Version && m.Size == w.Size && m.Chunk == w.Chunk && m.Hash == w.Hash && slices.Equal(m.Sums, w.Sums)
}

func isZero(m api.Manifest) bool { return same(m, api.Manifest{}) }

// copyOf shares nothing with a manifest.
func copyOf(m api.Manifest) api.Manifest {
	m.Sums = slices.Clone(m.Sums)
	return m
}

// filled is n bytes, all of one kind or another, that hang on seed.
func filled(n, seed int) []byte {
	b := make([]byte, n)
	x := uint32(seed)*2654435761 + 1
	for i := range b {
		x = x*1664525 + 1013904223
		b[i] = byte(x >> 24)
	}
	return b
}

// turned is bytes of which one was turned.
func turned(b []byte, at int, by byte) []byte {
	c := bytes.Clone(b)
	c[at] ^= by
	return c
}

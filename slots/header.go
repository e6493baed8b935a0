package slots

import (
	"bytes"
	"slices"

	"pennant/api"
	"pennant/crc"
	"pennant/manifest"
)

const (
	mark       = 0   // a byte that tells something; one that was erased tells nothing
	thereAt    = 800 // the bytes that tell which chunks are there
	verifiedAt = 960 // the byte that tells that the image is verified
	lengthSize = 2   // bytes of how many the manifest has
	sumSize    = 3   // bytes of the sum behind it
)

// header is what the header of a slot that has a manifest tells.
type header struct {
	manifest api.Manifest
	block    []byte
}

func (h header) isOf(m api.Manifest) bool { return bytes.HasPrefix(h.block, beginning(m)) }

func (h header) there(i int) bool { return h.block[thereAt+i] == mark }

func (h header) verified() bool { return h.block[verifiedAt] == mark }

// missing are the chunks that are not there.
func (h header) missing() []int {
	var l []int
	for i := range manifest.Count(h.manifest) {
		if !h.there(i) {
			l = append(l, i)
		}
	}
	return l
}

// beginning is the bytes that the header of a manifest begins with. What was programmed by halves lacks the last one, what was erased by halves the first one.
func beginning(m api.Manifest) []byte {
	b, _ := manifest.Encode(m) // of one that may be
	length := []byte{byte(len(b)), byte(len(b) >> 8)}
	return slices.Concat([]byte{mark}, crc.Seal(slices.Concat(length, b)), []byte{mark})
}

// manifestOf is the manifest that a header block begins with, if there is one.
func manifestOf(block []byte) (api.Manifest, bool) {
	length := int(block[1]) | int(block[2])<<8
	end := 1 + lengthSize + length + sumSize
	if end >= len(block) || block[0] != mark || block[end] != mark {
		return api.Manifest{}, false
	}
	text, whole := crc.Open(block[1:end])
	if !whole {
		return api.Manifest{}, false
	}
	m, e := manifest.Decode(text[lengthSize:])
	return m, e == api.OK
}

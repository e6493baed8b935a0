package manifest

import (
	"pennant/api"
	"pennant/pack"
)

const hashSize = 32

// The places of a manifest's fields.
const (
	versionAt = iota
	sizeAt
	chunkAt
	hashAt
	sumsAt
	fieldCount
)

// Encode is a manifest as bytes, Decode one of these again.
func Encode(m api.Manifest) ([]byte, api.Errno) {
	if !Right(m) {
		return nil, api.ErrArg
	}
	return pack.Encode(fields(), values(m))
}

func Decode(b []byte) (api.Manifest, api.Errno) {
	v, e := pack.Decode(fields(), b)
	if e != api.OK {
		return api.Manifest{}, e
	}
	m := manifestOf(v)
	if !Right(m) { // the fields do not say that there are as many sums as chunks
		return api.Manifest{}, api.ErrForm
	}
	return m, api.OK
}

func fields() []api.Field {
	number := func(least, most uint64) api.Field {
		return api.Field{Kind: api.FieldNumber, Min: least, Max: most}
	}
	l := make([]api.Field, fieldCount)
	l[versionAt] = number(1, api.MaxVersion)
	l[sizeAt] = number(1, api.MaxImage)
	l[chunkAt] = number(minChunk, maxChunk)
	l[hashAt] = api.Field{Kind: api.FieldBytes, Min: hashSize, Max: hashSize}
	l[sumsAt] = api.Field{Kind: api.FieldList, Min: 1, Max: api.MaxChunks, Of: []api.Field{number(0, maxSum)}}
	return l
}

// values are a manifest's, manifestOf is the one of such values, be it one that may be or not.
func values(m api.Manifest) []api.Value {
	v := make([]api.Value, fieldCount)
	v[versionAt].N = uint64(m.Version)
	v[sizeAt].N = uint64(m.Size)
	v[chunkAt].N = uint64(m.Chunk)
	v[hashAt].B = m.Hash[:]
	for _, sum := range m.Sums {
		v[sumsAt].L = append(v[sumsAt].L, []api.Value{{N: uint64(sum)}})
	}
	return v
}

func manifestOf(v []api.Value) api.Manifest {
	m := api.Manifest{Version: int(v[versionAt].N), Size: int(v[sizeAt].N), Chunk: int(v[chunkAt].N)}
	copy(m.Hash[:], v[hashAt].B)
	for _, record := range v[sumsAt].L {
		m.Sums = append(m.Sums, uint32(record[0].N))
	}
	return m
}

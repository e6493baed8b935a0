package manifest_test

import (
	"bytes"
	"math"
	"slices"
	"testing"

	"pennant/api"
	"pennant/manifest"
)

// made is the manifest of an image that may have one.
func made(t testing.TB, version int, image []byte, chunk int) api.Manifest {
	t.Helper()
	m, e := manifest.Make(version, image, chunk)
	want, _ := modelMake(version, image, chunk)
	if e != api.OK || !same(m, want) {
		t.Fatalf("Make(%d, %d bytes, %d): %v, %d, not %v", version, len(image), chunk, m, e, want)
	}
	return m
}

// of is a manifest of these numbers, with as many sums as count says.
func of(version, size, chunk, count int) api.Manifest {
	return api.Manifest{Version: version, Size: size, Chunk: chunk, Sums: make([]uint32, max(0, count))}
}

// oddOnes are manifests that may not be, each unlike one that may be by one thing alone.
func oddOnes() map[string]api.Manifest {
	l := map[string]api.Manifest{
		"zero":                   {},
		"version 0":              of(0, 40, 16, 3),
		"version -1":             of(-1, 40, 16, 3),
		"version too great":      of(1<<30+1, 40, 16, 3),
		"version beyond 32 bits": of(1<<32+1, 40, 16, 3),
		"size 0":                 of(1, 0, 16, 0),
		"size 0, one sum":        of(1, 0, 16, 1),
		"size -1":                of(1, -1, 16, 0),
		"size -40, no sums":      of(1, -40, 16, 0),
		"size too great":         of(1, 1<<15+1, 1024, 33),
		"size greatest of all":   of(1, math.MaxInt, 1024, 1),
		"size least of all":      of(1, math.MinInt, 16, 0),
		"chunk 0":                of(1, 40, 0, 1),
		"chunk -1":               of(1, 40, -1, 0),
		"chunk -16":              of(1, 40, -16, 3),
		"chunk 15":               of(1, 40, 15, 3),
		"chunk 1025":             of(1, 2000, 1025, 2),
		"chunk 1025, one":        of(1, 40, 1025, 1),
		"chunk greatest of all":  of(1, 40, math.MaxInt, 1),
		"chunk least of all":     of(1, 40, math.MinInt, 0),
		"129 chunks":             of(1, 128*16+1, 16, 129),
		"129 chunks, 128 sums":   of(1, 128*16+1, 16, 128),
		"2048 chunks":            of(1, 1<<15, 16, 2048),
		"no sums":                of(1, 40, 16, 0),
		"a sum too few":          of(1, 40, 16, 2),
		"a sum too many":         of(1, 40, 16, 4),
		"a sum too many, even":   of(1, 48, 16, 4),
		"a sum too few, even":    of(1, 48, 16, 2),
	}
	for i, name := range []string{"first sum too great", "second sum too great", "last sum too great"} {
		m := of(1, 40, 16, 3)
		m.Sums[i] = 1 << 24
		l[name] = m
	}
	m := of(1, 40, 16, 3)
	m.Sums[2] = math.MaxUint32
	l["sum greatest of all"] = m
	return l
}

// P10.1: the example of the chapter, and hashes and sums that are known.
func TestMakeKnown(t *testing.T) {
	image := []byte("123456789")
	m, e := manifest.Make(3, image, 16)
	hash := [4]byte(m.Hash[:4])
	if e != api.OK || m.Version != 3 || m.Size != 9 || m.Chunk != 16 || !slices.Equal(m.Sums, []uint32{0x21CF02}) || hash != [4]byte{0x15, 0xe2, 0xb0, 0xd3} {
		t.Errorf("%v, %d", m, e)
	}
	m, e = manifest.Make(3, make([]byte, 40), 16)
	if e != api.OK || len(m.Sums) != 3 || m.Sums[0] != m.Sums[1] || m.Sums[1] == m.Sums[2] {
		t.Errorf("%v, %d", m, e)
	}
}

// P10.1: Make, at all edges of its numbers, against the chapter's words; and what it makes may be.
func TestMake(t *testing.T) {
	versions := []int{math.MinInt, -1, 0, 1, 2, 255, 256, 1<<30 - 1, 1 << 30, 1<<30 + 1, 1<<32 + 1, math.MaxInt}
	sizes := []int{0, 1, 2, 15, 16, 17, 31, 32, 33, 40, 255, 256, 257, 1023, 1024, 1025, 2047, 2048, 2049, 32640, 32641, 1<<15 - 1, 1 << 15, 1<<15 + 1, 1 << 16, 1<<16 + 40}
	chunks := []int{math.MinInt, -16, -1, 0, 1, 15, 16, 17, 31, 32, 64, 254, 255, 256, 257, 512, 1000, 1023, 1024, 1025, 1 << 15, 1<<32 + 16, math.MaxInt}
	for _, size := range sizes {
		image := filled(size, size)
		before := bytes.Clone(image)
		for _, version := range versions {
			for _, chunk := range chunks {
				m, e := manifest.Make(version, image, chunk)
				want, is := modelMake(version, image, chunk)
				wantE := api.OK
				if !is {
					wantE = api.ErrArg
				}
				if e != wantE || !same(m, want) {
					t.Fatalf("Make(%d, %d bytes, %d): %v, %d, not %v, %d", version, size, chunk, m, e, want, wantE)
				}
				if manifest.Right(m) != is {
					t.Fatalf("Right of Make(%d, %d bytes, %d): %t", version, size, chunk, !is)
				}
			}
		}
		if !bytes.Equal(image, before) {
			t.Fatalf("an image of %d bytes was changed", size)
		}
	}
}

// P10.1: every size up to the greatest one, with the least and the greatest chunks that it may have.
func TestMakeEverySize(t *testing.T) {
	image := filled(1<<15, 9)
	for size := 1; size <= len(image); size += 1 + size/64 {
		least := max(16, (size+127)/128)
		for _, chunk := range []int{least, 1024} {
			m := made(t, 1, image[:size], chunk)
			if len(m.Sums) > 128 || !manifest.Right(m) {
				t.Fatalf("%d bytes by %d: %d sums", size, chunk, len(m.Sums))
			}
		}
		if least > 16 {
			if m, e := manifest.Make(1, image[:size], least-1); e != api.ErrArg || !isZero(m) {
				t.Fatalf("%d bytes by %d: %v, %d", size, least-1, m, e)
			}
		}
	}
}

// R2: no image is an empty one.
func TestMakeNothing(t *testing.T) {
	for _, image := range [][]byte{nil, {}} {
		if m, e := manifest.Make(1, image, 16); e != api.ErrArg || !isZero(m) {
			t.Errorf("%v, %d", m, e)
		}
	}
}

// P10.1: an image that is too great is refused without being gone through.
func TestMakeGreat(t *testing.T) {
	image := make([]byte, 1<<26)
	for range 1000 {
		if m, e := manifest.Make(1, image, 1024); e != api.ErrArg || !isZero(m) {
			t.Fatalf("%v, %d", m, e)
		}
	}
}

// P10.1: at all numbers about the edges those manifests may be that the chapter lists, and no others.
func TestRight(t *testing.T) {
	versions := []int{math.MinInt, -1, 0, 1, 1 << 30, 1<<30 + 1, math.MaxInt}
	sizes := []int{math.MinInt, -17, -1, 0, 1, 15, 16, 17, 1024, 2048, 2049, 32640, 32641, 1 << 15, 1<<15 + 1, 1 << 16, math.MaxInt - 15, math.MaxInt}
	chunks := []int{math.MinInt, -16, -1, 0, 1, 15, 16, 17, 255, 256, 1023, 1024, 1025, math.MaxInt}
	counts := []int{0, 1, 2, 3, 32, 33, 64, 65, 127, 128, 129, 2048}
	for _, version := range versions {
		for _, size := range sizes {
			for _, chunk := range chunks {
				for _, count := range counts {
					m := of(version, size, chunk, count)
					if got, want := manifest.Right(m), numbersMay(version, min(size, 1<<17), chunk) && may(m); got != want {
						t.Fatalf("Right(%d, %d, %d, %d sums): %t", version, size, chunk, count, got)
					}
				}
			}
		}
	}
}

// P10.1: a sum has 24 bits, whichever it is; the hash is any.
func TestRightSums(t *testing.T) {
	for i := range 3 {
		for sum, want := range map[uint32]bool{0: true, 1: true, 1<<24 - 1: true, 1 << 24: false, 1<<24 + 1: false, 1 << 31: false, math.MaxUint32: false} {
			m := of(1, 40, 16, 3)
			m.Sums[i] = sum
			if manifest.Right(m) != want {
				t.Errorf("the sum %d: %x: %t", i, sum, !want)
			}
		}
	}
	m := of(1, 40, 16, 3)
	for i := range m.Hash {
		m.Hash[i] = 255
		if !manifest.Right(m) {
			t.Fatalf("the hash %x", m.Hash)
		}
	}
}

// P10.1 to P10.3: what may not be, is none in any call.
func TestOddOnes(t *testing.T) {
	for name, m := range oddOnes() {
		if manifest.Right(m) || manifest.Count(m) != 0 {
			t.Errorf("%s: Right %t, Count %d", name, manifest.Right(m), manifest.Count(m))
		}
		for _, i := range []int{math.MinInt, -1, 0, 1, 2, 128, math.MaxInt} {
			if at, n, e := manifest.Span(m, i); at != 0 || n != 0 || e != api.ErrArg {
				t.Errorf("%s: Span(%d): %d, %d, %d", name, i, at, n, e)
			}
			for _, size := range []int{0, 1, 8, 16, 40, 1024} {
				if manifest.Chunk(m, i, make([]byte, size)) {
					t.Errorf("%s: Chunk(%d) of %d bytes", name, i, size)
				}
			}
		}
		if b, e := manifest.Encode(m); len(b) != 0 || e != api.ErrArg {
			t.Errorf("%s: Encode: %x, %d", name, b, e)
		}
	}
}

// P10.2: a manifest that may not be tells of no chunk and no image, though its hash and the chunk's sum are right.
func TestOddButAlike(t *testing.T) {
	image := filled(40, 1)
	spoil := map[string]func(*api.Manifest){
		"version 0":         func(m *api.Manifest) { m.Version = 0 },
		"version too great": func(m *api.Manifest) { m.Version = 1<<30 + 1 },
		"a sum too many":    func(m *api.Manifest) { m.Sums = append(m.Sums, 0) },
		"a sum too few":     func(m *api.Manifest) { m.Sums = m.Sums[:2] },
		"a sum too great":   func(m *api.Manifest) { m.Sums[2] |= 1 << 24 },
		"chunk 15":          func(m *api.Manifest) { m.Chunk = 15 },
		"chunk 0":           func(m *api.Manifest) { m.Chunk = 0 },
	}
	for name, change := range spoil {
		m := made(t, 1, image, 16)
		change(&m)
		if manifest.Whole(m, image) {
			t.Errorf("%s: whole", name)
		}
		for i, c := range cut(image, 16) {
			if manifest.Chunk(m, i, c) {
				t.Errorf("%s: the chunk %d", name, i)
			}
		}
	}
	empty := api.Manifest{Version: 1, Chunk: 16}
	copy(empty.Hash[:], []byte{0xe3, 0xb0, 0xc4, 0x42, 0x98, 0xfc, 0x1c, 0x14, 0x9a, 0xfb, 0xf4, 0xc8, 0x99, 0x6f, 0xb9, 0x24, 0x27, 0xae, 0x41, 0xe4, 0x64, 0x9b, 0x93, 0x4c, 0xa4, 0x95, 0x99, 0x1b, 0x78, 0x52, 0xb8, 0x55})
	if manifest.Whole(empty, nil) {
		t.Error("nothing is an image")
	}
	great := filled(1<<15+1, 2)
	m := of(1, len(great), 1024, 33)
	one, _ := modelMake(1, great[:1<<15], 1024)
	m.Hash = one.Hash
	if manifest.Whole(m, great[:1<<15]) {
		t.Error("an image that is too great")
	}
}

// P10.2: the chapter's example.
func TestSpanExample(t *testing.T) {
	m := made(t, 3, filled(40, 3), 16)
	if manifest.Count(m) != 3 {
		t.Errorf("Count: %d", manifest.Count(m))
	}
	want := [][2]int{{0, 16}, {16, 16}, {32, 8}}
	for i, w := range want {
		if at, n, e := manifest.Span(m, i); at != w[0] || n != w[1] || e != api.OK {
			t.Errorf("Span(%d): %d, %d, %d", i, at, n, e)
		}
	}
}

// P10.2: spans stand one behind the other, and are the image; there are no others.
func TestSpans(t *testing.T) {
	image := filled(1<<15, 4)
	for _, size := range []int{1, 15, 16, 17, 31, 32, 33, 1023, 1024, 1025, 2047, 2048, 5000, 32640, 1<<15 - 1, 1 << 15} {
		for _, chunk := range []int{16, 17, 100, 255, 256, 1023, 1024} {
			if !numbersMay(1, size, chunk) {
				continue
			}
			m := made(t, 1, image[:size], chunk)
			if got := manifest.Count(m); got != needs(size, chunk) {
				t.Fatalf("%d by %d: Count %d", size, chunk, got)
			}
			at := 0
			for i, c := range cut(image[:size], chunk) {
				if from, n, e := manifest.Span(m, i); from != at || n != len(c) || e != api.OK {
					t.Fatalf("%d by %d: Span(%d): %d, %d, %d", size, chunk, i, from, n, e)
				}
				at += len(c)
			}
			for _, i := range []int{math.MinInt, -2, -1, manifest.Count(m), manifest.Count(m) + 1, 1 << 32, math.MaxInt} {
				if from, n, e := manifest.Span(m, i); from != 0 || n != 0 || e != api.ErrArg {
					t.Fatalf("%d by %d: Span(%d): %d, %d, %d", size, chunk, i, from, n, e)
				}
				if manifest.Chunk(m, i, image[:min(chunk, size)]) || manifest.Chunk(m, i, nil) {
					t.Fatalf("%d by %d: Chunk(%d)", size, chunk, i)
				}
			}
		}
	}
}

// P10.2: a chunk is one by its length and its sum, in its own place alone.
func TestChunk(t *testing.T) {
	image := filled(100, 5)
	m := made(t, 1, image, 24)
	l := cut(image, 24)
	for i := range l {
		for j, c := range l {
			if manifest.Chunk(m, i, c) != (i == j) {
				t.Errorf("the chunk %d as %d: %t", j, i, i != j)
			}
		}
		for n := range len(l[i]) {
			if manifest.Chunk(m, i, l[i][:n]) {
				t.Errorf("%d bytes of the chunk %d", n, i)
			}
		}
		if manifest.Chunk(m, i, append(bytes.Clone(l[i]), 0)) || manifest.Chunk(m, i, nil) {
			t.Errorf("the chunk %d and a nought", i)
		}
	}
}

// P10.2: bytes of another length are no chunk, though they have its sum.
func TestChunkOfLikeSum(t *testing.T) {
	b := filled(20, 6)
	m := api.Manifest{Version: 1, Size: 24, Chunk: 24, Sums: []uint32{sum24(b)}}
	if manifest.Chunk(m, 0, b) {
		t.Error("20 bytes are a chunk of 24")
	}
	m.Size = 20
	if !manifest.Chunk(m, 0, b) {
		t.Error("20 bytes are no chunk of 20")
	}
	m = api.Manifest{Version: 1, Size: 40, Chunk: 16, Sums: []uint32{1, 2, sum24(image16())}}
	if manifest.Chunk(m, 2, image16()) {
		t.Error("16 bytes are a last chunk of 8")
	}
}

func image16() []byte { return filled(16, 7) }

// P10.2: the chunks of an image are told by the sums alone, whatever its hash is, and the whole by the hash alone.
func TestHashAndSumsApart(t *testing.T) {
	image := filled(40, 8)
	m := made(t, 1, image, 16)
	m.Hash[31] ^= 1
	if manifest.Whole(m, image) || !manifest.Chunk(m, 2, image[32:]) {
		t.Error("another hash")
	}
	m = made(t, 1, image, 16)
	m.Sums[1] ^= 1
	if !manifest.Whole(m, image) || manifest.Chunk(m, 1, image[16:32]) || !manifest.Chunk(m, 0, image[:16]) {
		t.Error("another sum")
	}
}

// P10.2: an image is whole by its length and all of its hash.
func TestWhole(t *testing.T) {
	image := filled(100, 9)
	m := made(t, 1, image, 24)
	if !manifest.Whole(m, image) {
		t.Error("not whole")
	}
	for n := range image {
		if manifest.Whole(m, image[:n]) {
			t.Errorf("whole by %d bytes", n)
		}
	}
	if manifest.Whole(m, nil) || manifest.Whole(m, append(bytes.Clone(image), 0)) {
		t.Error("whole by too many, or none")
	}
	for i := range m.Hash {
		w := copyOf(m)
		w.Hash[i] ^= 128
		if manifest.Whole(w, image) {
			t.Errorf("whole by a hash whose byte %d was turned", i)
		}
	}
	w := copyOf(m)
	w.Size = 99
	if manifest.Whole(w, image) {
		t.Error("whole by a size that is not its own")
	}
	w.Sums, w.Chunk = w.Sums[:1], 200
	if !manifest.Right(w) || manifest.Whole(w, image) {
		t.Error("whole by a lesser size")
	}
}

// P10.4: an image is whole, and put together by its chunks; with a byte turned the chunk of that byte is none, and all others are.
func TestTheorem(t *testing.T) {
	for _, size := range []int{1, 16, 17, 40, 100, 257} {
		for _, chunk := range []int{16, 25, 64, 1024} {
			image := filled(size, size+chunk)
			m := made(t, 7, image, chunk)
			var all []byte
			for i := range manifest.Count(m) {
				at, n, e := manifest.Span(m, i)
				if e != api.OK || at != len(all) || !manifest.Chunk(m, i, image[at:at+n]) {
					t.Fatalf("%d by %d: the chunk %d: %d, %d, %d", size, chunk, i, at, n, e)
				}
				all = append(all, image[at:at+n]...)
			}
			if !bytes.Equal(all, image) || !manifest.Whole(m, all) {
				t.Fatalf("%d by %d: not the image", size, chunk)
			}
			for at := range image {
				oneTurned(t, m, image, at)
			}
		}
	}
}

func oneTurned(t *testing.T, m api.Manifest, image []byte, at int) {
	t.Helper()
	for _, by := range []byte{1, 2, 4, 8, 16, 32, 64, 128, 3, 170, 255} {
		b := turned(image, at, by)
		if manifest.Whole(m, b) {
			t.Fatalf("whole, with the byte %d turned by %d", at, by)
		}
		for i, c := range cut(b, m.Chunk) {
			if manifest.Chunk(m, i, c) != (i != at/m.Chunk) {
				t.Fatalf("the chunk %d of %d, with the byte %d turned by %d", i, m.Chunk, at, by)
			}
		}
	}
}

// R3: what is handed in stays as it is, and what is told is the caller's own.
func TestOwn(t *testing.T) {
	image := filled(40, 10)
	m := made(t, 1, image, 16)
	want := copyOf(m)
	again := made(t, 1, image, 16)
	image[0] ^= 255
	again.Sums[0] ^= 255
	if !same(m, want) {
		t.Fatal("a manifest shares with the image, or with another")
	}
	image[0] ^= 255
	b, _ := manifest.Encode(m)
	code := bytes.Clone(b)
	w, _ := manifest.Decode(b)
	v, _ := manifest.Decode(b)
	clear(b)
	if !same(w, want) || !same(v, want) {
		t.Error("a decoded one shares with its bytes")
	}
	v.Sums[0] ^= 255
	if !same(w, want) {
		t.Error("two decoded ones share")
	}
	if c, _ := manifest.Encode(m); !bytes.Equal(c, code) {
		t.Error("the bytes of two codes are shared")
	}
	manifest.Count(m)
	manifest.Span(m, 1)
	manifest.Chunk(m, 1, image[16:32])
	manifest.Whole(m, image)
	if !same(m, want) || !bytes.Equal(image, filled(40, 10)) {
		t.Error("what was handed in was changed")
	}
}

// Right asks all sums that there are, and no others: what lies behind them in memory does not count.
func TestNothingBehind(t *testing.T) {
	room := []uint32{1, 2, 3, math.MaxUint32}
	m := of(1, 40, 16, 0)
	m.Sums = room[:3]
	if !manifest.Right(m) || manifest.Count(m) != 3 {
		t.Error("what lies behind the sums counts")
	}
	if b, e := manifest.Encode(m); e != api.OK || room[3] != math.MaxUint32 || !bytes.Equal(b, layOut(m)) {
		t.Errorf("%x, %d", b, e)
	}
}

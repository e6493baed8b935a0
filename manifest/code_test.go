package manifest_test

import (
	"bytes"
	"math/rand"
	"testing"

	"pennant/api"
	"pennant/manifest"
)

// encoded is the bytes of a manifest that may be, as the chapter lays them out; it is decoded as it was.
func encoded(t testing.TB, m api.Manifest) []byte {
	t.Helper()
	before := copyOf(m)
	b, e := manifest.Encode(m)
	if e != api.OK || !bytes.Equal(b, layOut(m)) {
		t.Fatalf("Encode(%v): %x, %d, not %x", m, b, e, layOut(m))
	}
	w, e := manifest.Decode(b)
	if e != api.OK || !same(w, before) || !same(m, before) {
		t.Fatalf("Decode(%x): %v, %d, not %v", b, w, e, before)
	}
	return b
}

// decodes fails if bytes are not decoded as the chapter's words say.
func decodes(t testing.TB, b []byte) bool {
	t.Helper()
	before := bytes.Clone(b)
	m, e := manifest.Decode(b)
	want, is := modelDecode(b)
	wantE := api.OK
	if !is {
		wantE = api.ErrForm
	}
	if e != wantE || !same(m, want) {
		t.Fatalf("Decode(%x): %v, %d, not %v, %d", b, m, e, want, wantE)
	}
	if !bytes.Equal(b, before) {
		t.Fatalf("Decode(%x) changed it", before)
	}
	if !is {
		return false
	}
	if c, e := manifest.Encode(m); e != api.OK || !bytes.Equal(c, b) {
		t.Fatalf("Decode(%x) is the code %x, %d", b, c, e)
	}
	return true
}

// P10.3: a code, byte by byte.
func TestEncodeKnown(t *testing.T) {
	m := api.Manifest{Version: 0x01020304, Size: 0x0506, Chunk: 0x0107, Sums: []uint32{0x0A0B0C, 0, 0xFFFFFF, 1, 2}}
	for i := range m.Hash {
		m.Hash[i] = byte(100 + i)
	}
	b, e := manifest.Encode(m)
	want := []byte{3, 3, 2, 1, 5, 5, 0xF7, 0, 0}
	want = append(want, m.Hash[:]...)
	want = append(want, 4, 0x0C, 0x0B, 0x0A, 0, 0, 0, 255, 255, 255, 1, 0, 0, 2, 0, 0)
	if e != api.OK || !bytes.Equal(b, want) {
		t.Errorf("%x, %d, not %x", b, e, want)
	}
	encoded(t, m)
}

// P10.3, P10.4: manifests at the edges are decoded as they were, and unlike ones are unlike bytes.
func TestCodeEdges(t *testing.T) {
	seen := map[string]bool{}
	count := 0
	for _, version := range []int{1, 2, 256, 257, 1<<16 + 1, 1<<24 + 1, 1<<30 - 1, 1 << 30} {
		for _, size := range []int{1, 16, 17, 256, 257, 2048, 1<<15 - 1, 1 << 15} {
			for _, chunk := range []int{16, 17, 271, 272, 1023, 1024} {
				if !numbersMay(version, size, chunk) {
					continue
				}
				m := of(version, size, chunk, needs(size, chunk))
				for _, fill := range []uint32{0, 1, 255, 256, 1 << 16, 1<<24 - 1} {
					m.Hash[31] = byte(fill)
					m.Sums[len(m.Sums)-1] = fill
					seen[string(encoded(t, m))] = true
					count++
				}
			}
		}
	}
	if len(seen) != count {
		t.Errorf("%d codes of %d manifests", len(seen), count)
	}
}

// P10.3: the greatest code has 426 bytes.
func TestCodeGreatest(t *testing.T) {
	m := made(t, 1<<30, filled(1<<15, 1), 256)
	if b := encoded(t, m); len(b) != 426 {
		t.Errorf("%d bytes", len(b))
	}
	if b := encoded(t, made(t, 1, filled(1, 1), 16)); len(b) != 45 {
		t.Errorf("%d bytes", len(b))
	}
}

// P10.3, P10.4: many manifests of images.
func TestCodeOfImages(t *testing.T) {
	for i := range 500 {
		size := 1 + i*i%(1<<15)
		chunk := max(16, (size+127)/128) + i%7
		m := made(t, 1+i*i*i, filled(size, i), chunk)
		if b := encoded(t, m); !decodes(t, b) {
			t.Fatalf("%x is no code", b)
		}
	}
}

// P10.3: each byte of a code, at each value, is taken as the words say.
func TestDecodeEachByte(t *testing.T) {
	for _, m := range []api.Manifest{
		made(t, 1, filled(40, 1), 16),
		made(t, 1<<30, filled(2048, 2), 16),
		made(t, 3, filled(1024, 3), 1024),
		made(t, 3, filled(1<<15, 3), 1024),
	} {
		b := encoded(t, m)
		for at := range b {
			if at > sumsAt+6 && at < len(b)-3 { // sums in the middle are like these
				continue
			}
			c := bytes.Clone(b)
			for x := range 256 {
				c[at] = byte(x)
				decodes(t, c)
			}
		}
	}
}

// P10.3: a code that is cut off, or goes on, is none.
func TestDecodeLengths(t *testing.T) {
	for _, b := range [][]byte{nil, {}, {0}, make([]byte, 42), make([]byte, 1<<20)} {
		if decodes(t, b) {
			t.Errorf("%d bytes are a code", len(b))
		}
	}
	for _, size := range []int{1, 40, 2048} {
		b := encoded(t, made(t, 1, filled(size, 1), 16))
		for n := range b {
			if decodes(t, b[:n]) {
				t.Errorf("%d bytes of %d are a code", n, len(b))
			}
		}
		for _, more := range []int{1, 2, 3, 6, 100} {
			if decodes(t, append(bytes.Clone(b), make([]byte, more)...)) {
				t.Errorf("%d bytes, and %d, are a code", len(b), more)
			}
		}
	}
}

// P10.3: bytes of a manifest that may not be are no code, though the fields have room for it.
func TestDecodeOdd(t *testing.T) {
	for _, m := range oddOnes() {
		decodes(t, layOut(m)) // a number beyond the layout's room is cut there, and may be one that is right
	}
	for name, m := range map[string]api.Manifest{
		"a sum too few":        of(1, 40, 16, 2),
		"a sum too many":       of(1, 40, 16, 4),
		"129 chunks, 128 sums": of(1, 128*16+1, 16, 128),
		"2048 chunks, one sum": of(1, 1<<15, 16, 1),
		"129 sums":             of(1, 128*16+1, 16, 129),
		"256 sums":             of(1, 256*16, 16, 256),
	} {
		if m, e := manifest.Decode(layOut(m)); e != api.ErrForm || !isZero(m) {
			t.Errorf("%s: %v, %d", name, m, e)
		}
	}
}

// P10.3: bytes of all kinds.
func TestDecodeAny(t *testing.T) {
	r := rand.New(rand.NewSource(1))
	codes := 0
	for range 20000 {
		size, chunk := 1+r.Intn(1<<12), 16+r.Intn(1009)
		m := of(1+r.Intn(1<<30), size, chunk, min(256, needs(size, chunk)+r.Intn(3)/2))
		for i := range m.Sums {
			m.Sums[i] = uint32(r.Intn(1 << 24))
		}
		r.Read(m.Hash[:])
		b := layOut(m)
		for range r.Intn(2) {
			b[r.Intn(len(b))] = byte(r.Intn(256))
		}
		if decodes(t, b) {
			codes++
		}
	}
	if codes < 5000 || codes > 19000 {
		t.Errorf("%d codes", codes)
	}
}

func FuzzDecode(f *testing.F) {
	for _, size := range []int{1, 40, 2048} {
		m, _ := modelMake(size, filled(size, size), 16)
		f.Add(layOut(m))
	}
	f.Fuzz(func(t *testing.T, b []byte) { decodes(t, b) })
}

// FuzzImage looks for images whose manifests are not as they must be.
func FuzzImage(f *testing.F) {
	f.Add(3, filled(40, 1), 16, 33, byte(1))
	f.Add(1<<30, filled(2048, 1), 16, 2047, byte(255))
	f.Fuzz(func(t *testing.T, version int, image []byte, chunk, at int, by byte) {
		m, e := manifest.Make(version, image, chunk)
		want, is := modelMake(version, image, chunk)
		if (e == api.OK) != is || !is && e != api.ErrArg || !same(m, want) {
			t.Fatalf("Make: %v, %d, not %v", m, e, want)
		}
		if !is {
			return
		}
		encoded(t, m)
		if !manifest.Whole(m, image) {
			t.Fatal("not whole")
		}
		if by == 0 || at < 0 || at >= len(image) {
			return
		}
		b := turned(image, at, by)
		if c := cut(b, chunk)[at/chunk]; manifest.Whole(m, b) || manifest.Chunk(m, at/chunk, c) {
			t.Fatalf("the byte %d turned by %d", at, by)
		}
	})
}

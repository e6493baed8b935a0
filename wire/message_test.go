package wire_test

import (
	"bytes"
	"math"
	"slices"
	"strings"
	"testing"

	"pennant/api"
	"pennant/manifest"
	"pennant/wire"
)

// made is the manifest of an image of so many bytes.
func made(t testing.TB, version, size, chunk int) api.Manifest {
	t.Helper()
	m, e := manifest.Make(version, chance(int64(size)).filled(size), chunk)
	if e != api.OK {
		t.Fatalf("Make(%d, %d bytes, %d): %d", version, size, chunk, e)
	}
	return m
}

// ofEachKind is a message of each kind, without a 0 in what it has.
func ofEachKind(t testing.TB) []api.Message {
	t.Helper()
	return []api.Message{
		{Kind: api.Poll, Device: 2, Version: 3},
		{Kind: api.Offer, Campaign: 4, Lease: 5, Manifest: made(t, 3, 40, 16)},
		{Kind: api.Idle},
		{Kind: api.Want, Campaign: 4, Lease: 5, Chunk: 6},
		{Kind: api.Part, Campaign: 4, Lease: 5, Chunk: 6, Body: []byte("body")},
		{Kind: api.Tell, Device: 2, Seq: 7, Campaign: 4, Lease: 5, Version: 3, Outcome: 2},
		{Kind: api.Told, Seq: 7},
		{Kind: api.Gone, Campaign: 4, Lease: 5},
	}
}

// encoded is the bytes of a message that may be, as the chapter lays them out; it is told as it was.
func encoded(t testing.TB, m api.Message) []byte {
	t.Helper()
	before := copyMessage(m)
	if !wire.Right(m) {
		t.Fatalf("Right(%v): false", m)
	}
	b, e := wire.Encode(m)
	if e != api.OK || !bytes.Equal(b, layMessage(m)) {
		t.Fatalf("Encode(%v): %x, %d, not %x", m, b, e, layMessage(m))
	}
	if w, e := wire.Decode(b); e != api.OK || !sameMessage(w, before) {
		t.Fatalf("Decode(%x): %v, %d, not %v", b, w, e, before)
	}
	if !sameMessage(m, before) {
		t.Fatalf("%v was changed to %v", before, m)
	}
	return b
}

// refused fails if a message that may not be is taken.
func refused(t testing.TB, m api.Message) {
	t.Helper()
	before := copyMessage(m)
	if wire.Right(m) {
		t.Fatalf("Right(%v): true", m)
	}
	if b, e := wire.Encode(m); e != api.ErrArg || len(b) != 0 {
		t.Fatalf("Encode(%v): %x, %d", m, b, e)
	}
	if !sameMessage(m, before) {
		t.Fatalf("%v was changed to %v", before, m)
	}
}

// asked holds a message of any kind against the chapter.
func asked(t testing.TB, m api.Message) bool {
	t.Helper()
	if mayMessage(m) {
		encoded(t, m)
		return true
	}
	refused(t, m)
	return false
}

// decodes fails if bytes are not decoded as the chapter's words say.
func decodes(t testing.TB, b []byte) bool {
	t.Helper()
	before := bytes.Clone(b)
	want, is := readMessage(b)
	wantE := api.OK
	if !is {
		wantE = api.ErrForm
	}
	if m, e := wire.Decode(b); e != wantE || !sameMessage(m, want) {
		t.Fatalf("Decode(%x): %v, %d, not %v, %d", b, m, e, want, wantE)
	}
	if !bytes.Equal(b, before) {
		t.Fatalf("Decode(%x) changed it", before)
	}
	if is && !bytes.Equal(encoded(t, want), b) {
		t.Fatalf("%x is not the code of %v", b, want)
	}
	return is
}

// P14.1: the code of each kind, byte by byte.
func TestEncodeKnown(t *testing.T) {
	four := "\x04\x03\x02\x01" // 0x01020305 less 1
	of := api.Manifest{Version: 0x01020305, Size: 2, Chunk: 17, Hash: [32]byte{9, 31: 8}, Sums: []uint32{0x0A0B0C}}
	code := four + "\x01\x00\x01\x00\x00\x09" + strings.Repeat("\x00", 30) + "\x08\x00\x0C\x0B\x0A"
	for _, c := range []struct {
		m    api.Message
		want string
	}{
		{api.Message{Kind: api.Told, Seq: 7}, "\x07\x06\x00\x00\x00"}, // the chapter's examples
		{api.Message{Kind: api.Idle}, "\x03"},
		{api.Message{Kind: api.Poll, Device: 1}, "\x01\x00\x00\x00\x00\x00\x00"},
		{api.Message{Kind: api.Poll, Device: 4096, Version: maxNumber}, "\x01\xff\x0f\x00\x00\x00\x40"},
		{api.Message{Kind: api.Poll, Device: 0x0203, Version: 0x01020304}, "\x01\x02\x02\x04\x03\x02\x01"},
		{api.Message{Kind: api.Offer, Campaign: 1, Lease: 0x01020305, Manifest: of}, "\x02\x00\x00\x00\x00" + four + "\x2d\x00" + code},
		{api.Message{Kind: api.Want, Campaign: 0x01020305, Lease: 1, Chunk: 127}, "\x04" + four + "\x00\x00\x00\x00\x7f"},
		{api.Message{Kind: api.Part, Campaign: 0x01020305, Lease: 2, Chunk: 3}, "\x05" + four + "\x01\x00\x00\x00\x03\x00\x00"},
		{api.Message{Kind: api.Part, Campaign: 3, Lease: 2, Body: []byte("ab")}, "\x05\x02\x00\x00\x00\x01\x00\x00\x00\x00\x02\x00ab"},
		{api.Message{Kind: api.Part, Campaign: 1, Lease: 1, Body: make([]byte, maxPart)}, "\x05" + strings.Repeat("\x00", 10) + "\x04" + strings.Repeat("\x00", maxPart)},
		{api.Message{Kind: api.Tell, Device: 2, Seq: 3, Campaign: 4, Lease: 5, Version: 6, Outcome: 3}, "\x06\x01\x00\x02\x00\x00\x00\x03\x00\x00\x00\x04\x00\x00\x00\x05\x00\x00\x00\x02"},
		{api.Message{Kind: api.Told, Seq: maxNumber}, "\x07\xff\xff\xff\x3f"},
		{api.Message{Kind: api.Gone, Campaign: 2, Lease: 0x01020305}, "\x08\x01\x00\x00\x00" + four},
	} {
		b, e := wire.Encode(c.m)
		if e != api.OK || string(b) != c.want {
			t.Errorf("Encode(%v): %x, %d, not %x", c.m, b, e, c.want)
		}
		if m, e := wire.Decode([]byte(c.want)); e != api.OK || !sameMessage(m, c.m) {
			t.Errorf("Decode(%x): %v, %d, not %v", c.want, m, e, c.m)
		}
	}
}

// edges are numbers about all bounds that there are.
var edges = []int{
	math.MinInt, math.MinInt + 1, -1 << 32, -1 << 31, -maxNumber, -1, 0, 1, 2, 3, 4, 15, 16, 126, 127, 128, 255, 256, 257,
	1023, 1024, 1025, 4095, 4096, 4097, 1<<15 - 1, 1 << 15, 1<<15 + 1, 1<<16 - 1, 1 << 16, 1 << 24,
	maxNumber - 1, maxNumber, maxNumber + 1, 1<<31 - 1, 1 << 31, 1<<32 - 1, 1 << 32, 1<<32 + 1, 1<<32 + 2, math.MaxInt - 1, math.MaxInt,
}

// P14.1: each number of each kind at the edges, also such as the kind has not; and each kind that there is not.
func TestRightNumbers(t *testing.T) {
	kinds := append([]int{5, 6, 7, 8, 9}, edges...)
	for _, m := range ofEachKind(t) {
		may := 0
		for number := range numbers {
			for _, n := range edges {
				w := m
				set(&w, number, n)
				if asked(t, w) {
					may++
				}
			}
		}
		if may < numbers {
			t.Errorf("of kind %d only %d may be", m.Kind, may)
		}
		for _, kind := range kinds {
			w := m
			w.Kind = kind
			// A Chunk of 0 and an empty Body are as none.
			asGone := m.Kind == api.Gone && (kind == api.Want || kind == api.Part)
			if asked(t, w) != (kind == m.Kind || asGone || m.Kind == api.Want && kind == api.Part) {
				t.Errorf("%v: %v", w, !wire.Right(w))
			}
		}
	}
	for _, kind := range kinds {
		m := api.Message{Kind: kind}
		if asked(t, m) != (kind == api.Idle) {
			t.Errorf("%v", m)
		}
	}
}

// P14.1: bounds by name, as the chapter has them.
func TestRightBounds(t *testing.T) {
	for _, m := range ofEachKind(t) {
		l := map[int][2]int{}
		switch m.Kind {
		case api.Poll:
			l[device], l[version] = [2]int{1, 4096}, [2]int{0, maxNumber}
		case api.Tell:
			l[device], l[seq], l[version], l[outcome] = [2]int{1, 4096}, [2]int{1, maxNumber}, [2]int{1, maxNumber}, [2]int{1, 3}
		case api.Told:
			l[seq] = [2]int{1, maxNumber}
		case api.Want, api.Part:
			l[chunk] = [2]int{0, 127}
		}
		if slices.Contains([]int{api.Offer, api.Want, api.Part, api.Tell, api.Gone}, m.Kind) {
			l[campaign], l[lease] = [2]int{1, maxNumber}, [2]int{1, maxNumber}
		}
		for number := range numbers { // what the kind has not is 0
			for _, n := range []int{l[number][0] - 1, l[number][0], l[number][1], l[number][1] + 1} {
				w := m
				set(&w, number, n)
				if wire.Right(w) != (n == l[number][0] || n == l[number][1]) {
					t.Errorf("number %d of kind %d at %d: %v", number, m.Kind, n, wire.Right(w))
				}
			}
		}
	}
}

// P14.1: of a body only a Part has one, of at most 1024 bytes; nil and empty are the same.
func TestRightBody(t *testing.T) {
	for _, m := range ofEachKind(t) {
		for _, n := range []int{0, 1, 2, 255, 256, 1023, 1024, 1025, 1500, 1 << 16, 1<<16 + 1} {
			m.Body = make([]byte, n)
			if asked(t, m) != (n == 0 || m.Kind == api.Part && n <= maxPart) {
				t.Errorf("kind %d with a body of %d bytes", m.Kind, n)
			}
		}
		m.Body = nil
		nothing := encoded(t, m)
		m.Body = []byte{}
		if !bytes.Equal(encoded(t, m), nothing) {
			t.Errorf("kind %d: nil and empty are unlike", m.Kind)
		}
	}
}

// P14.1: nothing of a manifest is in another message than an Offer, not a byte of its hash.
func TestRightNoManifest(t *testing.T) {
	whole := made(t, 3, 40, 16)
	odd := []api.Manifest{whole, {Version: 1}, {Version: -1}, {Size: 1}, {Chunk: 16}, {Chunk: math.MinInt}, {Sums: []uint32{0}}, {Sums: whole.Sums}}
	for i := range 32 {
		for _, x := range []byte{1, 128, 255} {
			var m api.Manifest
			m.Hash[i] = x
			odd = append(odd, m)
		}
	}
	for _, m := range ofEachKind(t) {
		if m.Kind == api.Offer {
			continue
		}
		for _, m.Manifest = range odd {
			refused(t, m)
		}
		m.Manifest = api.Manifest{Sums: []uint32{}}
		encoded(t, m)
	}
}

// P14.1: an Offer has a manifest that may be.
func TestRightManifest(t *testing.T) {
	offer := func(of api.Manifest) api.Message {
		return api.Message{Kind: api.Offer, Campaign: 1, Lease: 2, Manifest: of}
	}
	for _, of := range []api.Manifest{
		made(t, 1, 1, 16), made(t, maxNumber, 1<<15, 256), made(t, 3, 1<<15, 1024), made(t, 3, 2048, 16),
		{Version: 1, Size: 1, Chunk: 16, Sums: []uint32{1<<24 - 1}}, // its hash is of noughts
	} {
		encoded(t, offer(of))
	}
	for _, change := range []func(of *api.Manifest){
		func(of *api.Manifest) { *of = api.Manifest{} },
		func(of *api.Manifest) { of.Version = 0 },
		func(of *api.Manifest) { of.Version = maxNumber + 1 },
		func(of *api.Manifest) { of.Size = 0 },
		func(of *api.Manifest) { of.Size = 49 },
		func(of *api.Manifest) { of.Chunk = 15 },
		func(of *api.Manifest) { of.Chunk = 1025 },
		func(of *api.Manifest) { of.Sums = nil },
		func(of *api.Manifest) { of.Sums = of.Sums[:2] },
		func(of *api.Manifest) { of.Sums = append(of.Sums, 0) },
		func(of *api.Manifest) { of.Sums[1] = 1 << 24 },
		func(of *api.Manifest) { of.Size, of.Sums = 129*16, make([]uint32, 129) },
	} {
		of := made(t, 3, 40, 16)
		change(&of)
		refused(t, offer(of))
	}
}

// P14.1, P14.3: messages at all edges are told as they were, and no two of them are the same bytes.
func TestCodesAreUnlike(t *testing.T) {
	seen := map[string]api.Message{}
	note := func(m api.Message) {
		if !mayMessage(m) {
			return
		}
		b := string(encoded(t, m))
		if w, is := seen[b]; is && !sameMessage(w, m) {
			t.Fatalf("%v and %v are %x", m, w, b)
		}
		seen[b] = m
	}
	for _, m := range ofEachKind(t) {
		for i := range numbers {
			for _, n := range edges {
				w := m
				set(&w, i, n)
				for j := range i {
					for _, k := range edges {
						v := w
						set(&v, j, k)
						note(v)
					}
				}
			}
		}
	}
	s := chance(1)
	for range 3000 {
		note(s.message())
	}
	if len(seen) < 5000 {
		t.Errorf("%d codes", len(seen))
	}
}

// P14.1: all codes of messages of few bytes, and all other bytes of that kind.
func TestDecodeShort(t *testing.T) {
	decodes(t, nil)
	decodes(t, []byte{})
	for x := range 256 {
		if decodes(t, []byte{byte(x)}) != (x == api.Idle) {
			t.Errorf("%d alone", x)
		}
		for y := range 256 {
			if decodes(t, []byte{byte(x), byte(y)}) {
				t.Errorf("%d %d", x, y)
			}
		}
	}
	for n := range 64 {
		for kind := range 256 {
			for _, fill := range []byte{0, 1, 255} {
				b := bytes.Repeat([]byte{fill}, n)
				decodes(t, append([]byte{byte(kind)}, b...))
			}
		}
	}
}

// P14.1: each byte of a code, at each value, is taken as the words say.
func TestDecodeEachByte(t *testing.T) {
	for _, m := range append(ofEachKind(t),
		api.Message{Kind: api.Poll, Device: 4096, Version: maxNumber},
		api.Message{Kind: api.Tell, Device: 4096, Seq: maxNumber, Campaign: maxNumber, Lease: maxNumber, Version: maxNumber, Outcome: 3},
		api.Message{Kind: api.Part, Campaign: maxNumber, Lease: maxNumber, Chunk: 127, Body: []byte{0, 0, 0}},
		api.Message{Kind: api.Offer, Campaign: 1, Lease: maxNumber, Manifest: made(t, 3, 300, 256)},
	) {
		b := encoded(t, m)
		for at := range b {
			c := bytes.Clone(b)
			for x := range 256 {
				c[at] = byte(x)
				decodes(t, c)
			}
		}
	}
}

// P14.1: a code that is cut off, or goes on, is none.
func TestDecodeLengths(t *testing.T) {
	for _, m := range append(ofEachKind(t), api.Message{Kind: api.Part, Campaign: 1, Lease: 1, Body: make([]byte, maxPart)}) {
		b := encoded(t, m)
		for n := range b {
			if decodes(t, b[:n]) {
				t.Errorf("%d bytes of %d are a code of kind %d", n, len(b), m.Kind)
			}
		}
		for _, more := range []int{1, 2, 3, 4, 6, 100, 1 << 20} {
			if decodes(t, append(bytes.Clone(b), make([]byte, more)...)) {
				t.Errorf("%d bytes, and %d, are a code of kind %d", len(b), more, m.Kind)
			}
		}
	}
}

// P14.1: bytes of messages that may not be are no code, though there is room for them.
func TestDecodeOdd(t *testing.T) {
	odd := []api.Message{
		{Kind: api.Poll, Device: 4097},
		{Kind: api.Poll, Device: 1, Version: maxNumber + 1},
		{Kind: api.Want, Campaign: maxNumber + 1, Lease: 1},
		{Kind: api.Want, Campaign: 1, Lease: maxNumber + 1},
		{Kind: api.Want, Campaign: 1, Lease: 1, Chunk: 128},
		{Kind: api.Part, Campaign: 1, Lease: 1, Chunk: 128},
		{Kind: api.Part, Campaign: 1, Lease: 1, Body: make([]byte, maxPart+1)},
		{Kind: api.Tell, Device: 4097, Seq: 1, Campaign: 1, Lease: 1, Version: 1, Outcome: 1},
		{Kind: api.Tell, Device: 1, Seq: maxNumber + 1, Campaign: 1, Lease: 1, Version: 1, Outcome: 1},
		{Kind: api.Tell, Device: 1, Seq: 1, Campaign: 1, Lease: 1, Version: maxNumber + 1, Outcome: 1},
		{Kind: api.Tell, Device: 1, Seq: 1, Campaign: 1, Lease: 1, Version: 1, Outcome: 4},
		{Kind: api.Tell, Device: 1, Seq: 1, Campaign: 1, Lease: 1, Version: 1, Outcome: 0},
		{Kind: api.Told}, {Kind: api.Told, Seq: maxNumber + 1},
		{Kind: api.Gone, Campaign: maxNumber + 1, Lease: 1}, {Kind: api.Gone, Campaign: 1},
	}
	for _, of := range []api.Manifest{
		{Version: 1, Size: 17, Chunk: 16, Sums: []uint32{1}},
		{Version: 1, Size: 16, Chunk: 16, Sums: []uint32{1, 2}},
		{Version: maxNumber + 1, Size: 16, Chunk: 16, Sums: []uint32{1}},
		{Version: 1, Size: 16, Chunk: 1025, Sums: []uint32{1}},
		{Version: 1, Size: 129 * 16, Chunk: 16, Sums: make([]uint32, 129)},
		{Version: 1, Size: 160 * 16, Chunk: 16, Sums: make([]uint32, 160)}, // beyond 500 bytes
	} {
		odd = append(odd, api.Message{Kind: api.Offer, Campaign: 1, Lease: 1, Manifest: of})
	}
	for _, m := range odd {
		if decodes(t, layMessage(m)) {
			t.Errorf("%v has a code", m)
		}
	}
	if decodes(t, text([]byte("\x02\x00\x00\x00\x00\x00\x00\x00\x00"), nil)) {
		t.Error("an Offer of no manifest")
	}
}

// P14.1, P14.3: messages by chance, also such that may not be, and spoilt codes.
func TestManyMessages(t *testing.T) {
	s := chance(2)
	var may, codes [2]int
	index := func(is bool) int {
		if is {
			return 1
		}
		return 0
	}
	for range 20000 {
		m := s.message()
		b := encoded(t, m)
		switch s.Intn(4) {
		case 0:
			set(&m, s.Intn(numbers), edges[s.Intn(len(edges))])
		case 1:
			m.Kind = 1 + s.Intn(8)
		case 2:
			m.Body = s.filled(s.Intn(2))
		default:
			m.Manifest = s.manifest()
		}
		may[index(asked(t, m))]++
		b[s.Intn(len(b))] = byte(s.between(0, 255))
		codes[index(decodes(t, b))]++
	}
	if min(may[0], may[1], codes[0], codes[1]) < 2000 {
		t.Errorf("%v, %v", may, codes)
	}
}

// R3: what is told is the caller's own, and shares nothing with what was handed in.
func TestMessagesShareNothing(t *testing.T) {
	for _, m := range append(ofEachKind(t), api.Message{Kind: api.Part, Campaign: 1, Lease: 1, Body: make([]byte, 100, 200)}) {
		before := copyMessage(m)
		b, _ := wire.Encode(m)
		want := bytes.Clone(b)
		one, _ := wire.Decode(b)
		two, _ := wire.Decode(b)
		spoil(&m)
		if !bytes.Equal(b, want) {
			t.Fatalf("%x shares with the message", b)
		}
		for i := range b {
			b[i] = ^b[i]
		}
		if !sameMessage(one, before) {
			t.Fatalf("%v shares with the bytes", one)
		}
		spoil(&one)
		if !sameMessage(two, before) {
			t.Fatalf("%v shares with another answer", two)
		}
	}
}

// spoil changes what a message points to.
func spoil(m *api.Message) {
	for i := range m.Body {
		m.Body[i] = ^m.Body[i]
	}
	for i := range m.Manifest.Sums {
		m.Manifest.Sums[i]++
	}
}

// FuzzDecode looks for bytes that Decode takes wrongly.
func FuzzDecode(f *testing.F) {
	for _, m := range ofEachKind(f) {
		f.Add(layMessage(m))
	}
	f.Add([]byte{})
	f.Fuzz(func(t *testing.T, b []byte) { decodes(t, b) })
}

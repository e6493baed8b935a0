package slots_test

import (
	"bytes"
	"math"
	"slices"
	"testing"

	"pennant/api"
	"pennant/boot"
	"pennant/flash"
	"pennant/slots"
)

// image is an image, and its manifest.
type image struct {
	m api.Manifest
	b []byte
}

// filled is an image of so many bytes, all of one kind or another, that hang on its version.
func filled(version, size, chunk int) image {
	b := make([]byte, size)
	x := uint32(version)*2654435761 + 1
	for i := range b {
		x = x*1664525 + 1013904223
		b[i] = byte(x >> 24)
	}
	return image{m: tells(version, b, chunk), b: b}
}

func (p image) chunks() [][]byte { return cut(p.b, p.m.Chunk) }

// twin is bytes of the same sum, of which four are others.
func twin(b []byte, at int) []byte {
	c := bytes.Clone(b)
	for i, x := range []byte{0x01, 0x86, 0x4C, 0xFB} {
		c[at+i] ^= x
	}
	return c
}

// rec is a record.
func rec(active, trial, tries, v0, v1 int) api.Boot {
	return api.Boot{Active: active, Trial: trial, Tries: tries, Versions: [2]int{v0, v1}}
}

// made is a new flash.
func made(t testing.TB, blocks, wear int) *flash.Flash {
	t.Helper()
	f, e := flash.New(blocks, wear)
	if e != api.OK {
		t.Fatalf("New(%d, %d): %d", blocks, wear, e)
	}
	return f
}

// dirty is a flash of which each byte was programmed.
func dirty(t testing.TB, blocks, wear int) *flash.Flash {
	t.Helper()
	f := made(t, blocks, wear)
	for i := range blocks {
		program(t, f, i*blockSize, bytes.Repeat([]byte{byte(i)}, blockSize))
	}
	return f
}

func program(t testing.TB, f *flash.Flash, at int, b []byte) {
	t.Helper()
	if e := f.Program(at, b); e != api.OK {
		t.Fatalf("Program(%d) of %d bytes: %d", at, len(b), e)
	}
}

func format(t testing.TB, f *flash.Flash, l layout, p image) {
	t.Helper()
	if e := slots.Format(f, l.first, l.n, p.m, p.b); e != api.OK {
		t.Fatalf("Format(%d, %d): %d", l.first, l.n, e)
	}
}

func opened(t testing.TB, f *flash.Flash, l layout) *slots.Slots {
	t.Helper()
	s, e := slots.Open(f, l.first, l.n)
	if e != api.OK || s == nil {
		t.Fatalf("Open(%d, %d): %v, %d", l.first, l.n, s, e)
	}
	return s
}

// formatted is slots with an image of the version 1, in a flash of just their blocks.
func formatted(t testing.TB, n int) (*flash.Flash, *slots.Slots) {
	t.Helper()
	f := made(t, slots.Blocks(n), 100)
	format(t, f, layout{0, n}, filled(1, 50, 32))
	return f, opened(t, f, layout{0, n})
}

// is fails if a call did not answer so.
func is(t testing.TB, what string, got, want api.Errno) {
	t.Helper()
	if got != want {
		t.Fatalf("%s: %d, not %d", what, got, want)
	}
}

func boots(t testing.TB, s *slots.Slots, most, want int) {
	t.Helper()
	if slot, e := s.Boot(most); slot != want || e != api.OK || s.Running() != want {
		t.Fatalf("Boot(%d): %d, %d, and %d runs, not %d", most, slot, e, s.Running(), want)
	}
}

func record(t testing.TB, s *slots.Slots, want api.Boot) {
	t.Helper()
	if s.Record() != want {
		t.Fatalf("%v, not %v", s.Record(), want)
	}
}

// takeIn begins with an image, and puts all of it in.
func takeIn(t testing.TB, s *slots.Slots, p image) {
	t.Helper()
	is(t, "Begin", s.Begin(p.m), api.OK)
	for i, b := range p.chunks() {
		is(t, "Put", s.Put(i, b), api.OK)
	}
}

// tried takes an image in, and lets it be tried.
func tried(t testing.TB, s *slots.Slots, p image) {
	t.Helper()
	takeIn(t, s, p)
	is(t, "Verify", s.Verify(), api.OK)
	is(t, "Try", s.Try(), api.OK)
}

// holds fails if a slot has not just that image.
func holds(t testing.TB, s *slots.Slots, slot int, p image) {
	t.Helper()
	m, has := s.Manifest(slot)
	b, whole := s.Image(slot)
	if !has || !whole || !same(m, p.m) || !bytes.Equal(b, p.b) {
		t.Fatalf("the slot %d: %v, %t, %x, %t", slot, m, has, b, whole)
	}
}

// empty fails if a slot has a manifest.
func empty(t testing.TB, s *slots.Slots, slot int) {
	t.Helper()
	m, has := s.Manifest(slot)
	b, whole := s.Image(slot)
	if has || whole || !same(m, api.Manifest{}) || len(b) > 0 {
		t.Fatalf("the slot %d: %v, %t, %x, %t", slot, m, has, b, whole)
	}
}

// begunWith fails if a slot has not just that manifest.
func begunWith(t testing.TB, s *slots.Slots, slot int, want api.Manifest) {
	t.Helper()
	if m, has := s.Manifest(slot); !has || !same(m, want) {
		t.Fatalf("the manifest of %d: %v, %t, not %v", slot, m, has, want)
	}
}

func missing(t testing.TB, s *slots.Slots, want ...int) {
	t.Helper()
	if got := s.Missing(); !slices.Equal(got, want) {
		t.Fatalf("missing: %v, not %v", got, want)
	}
}

// cells is all that a flash holds, and how often each block was erased.
func cells(t testing.TB, f *flash.Flash) ([]byte, []int) {
	t.Helper()
	var l []byte
	var wears []int
	for k := range f.Len() {
		b, e := f.Read(k*blockSize, blockSize)
		n, w := f.Wear(k)
		if e != api.OK || w != api.OK {
			t.Fatalf("the block %d: %d, %d", k, e, w)
		}
		l, wears = append(l, b...), append(wears, n)
	}
	return l, wears
}

// alike fails if two flashes part.
func alike(t testing.TB, f, g *flash.Flash) {
	t.Helper()
	if f.Off() != g.Off() {
		t.Fatalf("off: %t, not %t", f.Off(), g.Off())
	}
	if f.Off() {
		return
	}
	got, wears := cells(t, f)
	want, worn := cells(t, g)
	if !slices.Equal(wears, worn) {
		t.Fatalf("erased %v times, not %v", wears, worn)
	}
	if bytes.Equal(got, want) {
		return
	}
	for i := range got {
		if got[i] != want[i] {
			t.Fatalf("the byte %d of the block %d: %d, not %d", i%blockSize, i/blockSize, got[i], want[i])
		}
	}
}

// off lets the power of a flash go, with nothing changed.
func off(f *flash.Flash) {
	f.Arm(0, 0)
	f.Program(0, []byte{0})
}

// just fails if a call on a flash that prepare made does not do just these changes, in this order, whenever the power goes in one of them; the call is OK, or it answers want, when they are done.
func just(t *testing.T, prepare func() *flash.Flash, call func(f *flash.Flash) func() api.Errno, changes []change, want api.Errno) {
	t.Helper()
	once := func(at, left int, want api.Errno) {
		t.Helper()
		f, g := prepare(), prepare()
		c := call(f)
		f.Arm(at, left)
		g.Arm(at, left)
		if e := c(); e != want {
			t.Fatalf("armed with %d, %d: %d, not %d", at, left, e, want)
		}
		do(g, changes)
		alike(t, f, g)
		f.Power()
		g.Power()
		alike(t, f, g)
	}
	for at, c := range changes {
		size := len(c.b)
		if c.b == nil {
			size = blockSize
		}
		for _, left := range []int{-1, 0, 1, 2, size / 2, size - 1, size, size + 1} {
			once(at, left, api.ErrOff)
		}
	}
	once(len(changes), 0, want)
}

// P11.1: of 1 to 32 data blocks, and of no others.
func TestBlocks(t *testing.T) {
	for n := 1; n <= 32; n++ {
		if got := slots.Blocks(n); got != n+n+4 {
			t.Fatalf("Blocks(%d): %d", n, got)
		}
	}
	for _, n := range []int{math.MinInt, -3, -2, -1, 0, 33, 34, 1 << 20, math.MaxInt} {
		if got := slots.Blocks(n); got != 0 {
			t.Fatalf("Blocks(%d): %d", n, got)
		}
	}
}

// The chapter's example.
func TestExample(t *testing.T) {
	if slots.Blocks(2) != 8 {
		t.Fatal(slots.Blocks(2))
	}
	_, s := formatted(t, 2)
	tried(t, s, filled(2, 1500, 100))
	boots(t, s, 3, 1)
	is(t, "Commit", s.Commit(), api.OK)
	record(t, s, rec(1, -1, 0, 1, 2))
}

// P11.1: what may not be is ErrArg, and nothing is changed.
func TestFormatWrongly(t *testing.T) {
	p := filled(3, 1024, 16)
	if e := slots.Format(nil, 0, 1, p.m, p.b); e != api.ErrArg {
		t.Fatal(e)
	}
	f, g := dirty(t, 8, 9), dirty(t, 8, 9)
	wrong := func(first, n int, m api.Manifest, b []byte) {
		t.Helper()
		if e := slots.Format(f, first, n, m, b); e != api.ErrArg {
			t.Fatalf("Format(%d, %d): %d", first, n, e)
		}
		alike(t, f, g)
	}
	for _, first := range []int{math.MinInt, math.MinInt + 7, -6, -1, 3, 4, 8, math.MaxInt - 5, math.MaxInt} {
		wrong(first, 1, p.m, p.b)
	}
	for _, n := range []int{math.MinInt, -2, -1, 0, 3, 32, 33, math.MaxInt} {
		wrong(0, n, p.m, p.b)
	}
	for at := range p.b {
		b := bytes.Clone(p.b)
		b[at] ^= 1
		wrong(0, 1, p.m, b)
	}
	wrong(0, 1, p.m, twin(p.b, 5))
	wrong(0, 1, p.m, p.b[1:])
	wrong(0, 1, p.m, p.b[:1023])
	wrong(0, 1, p.m, append(bytes.Clone(p.b), 0))
	wrong(0, 1, p.m, nil)
	wrong(0, 1, api.Manifest{}, nil)
	for _, m := range oddManifests(p.m) {
		wrong(0, 1, m, p.b)
	}
	more := filled(3, 1025, 16)
	wrong(0, 1, more.m, more.b)
	most := filled(3, 2049, 1024)
	wrong(0, 2, most.m, most.b)
	off(f)
	off(g)
	wrong(0, 1, p.m, nil)
}

// oddManifests are such as may not be.
func oddManifests(m api.Manifest) []api.Manifest {
	var l []api.Manifest
	odd := func(turn func(m *api.Manifest)) {
		c := m
		c.Sums = slices.Clone(m.Sums)
		turn(&c)
		l = append(l, c)
	}
	for _, n := range []int{math.MinInt, -1, 0, 1<<30 + 1, math.MaxInt} {
		odd(func(m *api.Manifest) { m.Version = n })
	}
	for _, n := range []int{math.MinInt, -1, 0, 1<<15 + 1, math.MaxInt} {
		odd(func(m *api.Manifest) { m.Size = n })
		odd(func(m *api.Manifest) { m.Chunk = n })
	}
	for _, n := range []int{1, 15, 1025} {
		odd(func(m *api.Manifest) { m.Chunk = n })
	}
	odd(func(m *api.Manifest) { m.Sums = m.Sums[1:] })
	odd(func(m *api.Manifest) { m.Sums = append(m.Sums, 0) })
	odd(func(m *api.Manifest) { m.Sums = nil })
	odd(func(m *api.Manifest) { m.Sums[0] = 1 << 24 })
	odd(func(m *api.Manifest) { m.Sums[len(m.Sums)-1] = math.MaxUint32 })
	return l
}

// P11.1: Format erases and programs just what the chapter lists, in its order, whatever lay there.
func TestFormatChanges(t *testing.T) {
	for _, c := range []struct {
		layout
		p image
	}{
		{layout{0, 1}, filled(1, 1, 16)},
		{layout{0, 1}, filled(7, 1024, 1024)},
		{layout{1, 2}, filled(1<<30, 1024, 16)},
		{layout{1, 2}, filled(9, 1025, 16)},
		{layout{2, 3}, filled(9, 2048, 1000)},
		{layout{0, 3}, filled(9, 3072, 999)},
	} {
		blocks := c.first + slots.Blocks(c.n) + 1
		prepare := func() *flash.Flash { return dirty(t, blocks, 3) }
		call := func(f *flash.Flash) func() api.Errno {
			return func() api.Errno { return slots.Format(f, c.first, c.n, c.p.m, c.p.b) }
		}
		changes := append(c.format(c.p.m, c.p.b), change{c.first * blockSize, firstEntry(c.p.m.Version)})
		just(t, prepare, call, changes, api.OK)
	}
}

// firstEntry is the boot keeper's entry of the generation 1, with a version in the slot 0.
func firstEntry(version int) []byte {
	b := low(low([]byte{1, 0, 0, 0, 0, 0, 0}, version, 4), 0, 18)
	sum := sum24(b)
	return append(b, byte(sum>>16), byte(sum>>8), byte(sum))
}

// P11.1: the bytes of it, written out.
func TestFormatBytes(t *testing.T) {
	f := made(t, 6, 1)
	p := image{b: []byte{7, 8, 9}}
	p.m = tells(0x01020304, p.b, 16)
	format(t, f, layout{0, 1}, p)
	got, wears := cells(t, f)
	want := bytes.Repeat([]byte{255}, 6*blockSize)
	copy(want, firstEntry(0x01020304))
	copy(want[2*blockSize:], []byte{0, 45, 0, 3, 3, 2, 1, 2, 0, 0, 0, 0})
	copy(want[2*blockSize+12:], p.m.Hash[:])
	copy(want[2*blockSize+44:], []byte{0, byte(p.m.Sums[0]), byte(p.m.Sums[0] >> 8), byte(p.m.Sums[0] >> 16)})
	sum := sum24(want[2*blockSize+1 : 2*blockSize+48])
	copy(want[2*blockSize+48:], []byte{byte(sum >> 16), byte(sum >> 8), byte(sum), 0})
	want[2*blockSize+800], want[2*blockSize+960] = 0, 0
	copy(want[3*blockSize:], p.b)
	if !bytes.Equal(got, want) {
		t.Fatalf("%x", got)
	}
	if !slices.Equal(wears, []int{1, 1, 1, 1, 1, 0}) {
		t.Fatal(wears)
	}
}

// P11.1: of the greatest image, in the greatest slots, at the end of a flash.
func TestFormatGreatest(t *testing.T) {
	l := layout{256 - 68, 32}
	p := filled(1<<30, 1<<15, 256)
	f := made(t, 256, 9)
	format(t, f, l, p)
	s := opened(t, f, l)
	record(t, s, rec(0, -1, 0, 1<<30, 0))
	holds(t, s, 0, p)
	empty(t, s, 1)
	b, _ := cells(t, f)
	if !bytes.Equal(b[:188*blockSize], bytes.Repeat([]byte{255}, 188*blockSize)) {
		t.Fatal("what is ahead of the slots was changed")
	}
	q := filled(2, 1<<15, 256)
	tried(t, s, q)
	boots(t, s, 1, 1)
	holds(t, s, 1, q)
	holds(t, s, 0, p)
}

// P11.1: a block that is worn out is told when its turn comes; what is ahead of it is done.
func TestFormatWorn(t *testing.T) {
	l := layout{0, 2}
	p := filled(4, 1200, 100)
	for worn := range 8 {
		f, g := dirty(t, 8, 1), dirty(t, 8, 1)
		for _, x := range []*flash.Flash{f, g} {
			is(t, "Erase", x.Erase(worn), api.OK)
		}
		want := do(g, l.format(p.m, p.b))
		if unneeded := worn >= 6; unneeded != (want == api.OK) { // the data of the slot 1
			t.Fatalf("%d: %d", worn, want)
		}
		if want == api.OK {
			k, _ := boot.Open(g, 0)
			k.Save(rec(0, -1, 0, 4, 0))
		}
		is(t, "Format", slots.Format(f, 0, 2, p.m, p.b), want)
		alike(t, f, g)
	}
}

// P11.1: formatted again, nothing is left of what was: no trial, no other image, the generation 1.
func TestFormatAgain(t *testing.T) {
	f, s := formatted(t, 2)
	tried(t, s, filled(2, 2000, 64))
	boots(t, s, 2, 1)
	p := filled(5, 30, 16)
	format(t, f, layout{0, 2}, p)
	s = opened(t, f, layout{0, 2})
	record(t, s, rec(0, -1, 0, 5, 0))
	holds(t, s, 0, p)
	empty(t, s, 1)
	missing(t, s)
	if k, e := boot.Open(f, 0); e != api.OK || k.Generation() != 1 {
		t.Fatal(k.Generation(), e)
	}
}

// P11.1, P11.2: without power.
func TestWithoutPower(t *testing.T) {
	f, s := formatted(t, 1)
	p := filled(2, 70, 32)
	takeIn(t, s, p)
	off(f)
	empty(t, s, 0)
	empty(t, s, 1)
	missing(t, s)
	record(t, s, rec(0, -1, 0, 1, 0))
	boots(t, s, 3, 0)
	is(t, "Begin of the same", s.Begin(p.m), api.ErrOff)
	is(t, "Begin", s.Begin(filled(3, 70, 32).m), api.ErrOff)
	is(t, "Put", s.Put(0, p.b[:32]), api.ErrOrder)
	is(t, "Verify", s.Verify(), api.ErrOrder)
	is(t, "Try", s.Try(), api.ErrOrder)
	is(t, "Format", slots.Format(f, 0, 1, p.m, p.b), api.ErrOff)
	if s, e := slots.Open(f, 0, 1); s != nil || e != api.ErrOff {
		t.Fatal(s, e)
	}
	f.Power()
	holds(t, s, 1, p)
	is(t, "Verify", s.Verify(), api.OK)
}

// P11.2: what may not be, in a flash with power and without; ErrArg comes first.
func TestOpenWrongly(t *testing.T) {
	if s, e := slots.Open(nil, 0, 1); s != nil || e != api.ErrArg {
		t.Fatal(s, e)
	}
	f := made(t, 80, 9)
	for first := range 80 {
		program(t, f, first*blockSize, firstEntry(1))
	}
	check := func(first, n int, want api.Errno) {
		t.Helper()
		if s, e := slots.Open(f, first, n); e != want || (s == nil) != (e != api.OK) {
			t.Fatalf("Open(%d, %d): %v, %d, not %d", first, n, s, e, want)
		}
	}
	for _, without := range []bool{false, true} {
		right := api.OK
		if without {
			off(f)
			right = api.ErrOff
		}
		for _, n := range []int{math.MinInt, -2, -1, 0, 33, 38, math.MaxInt} {
			check(0, n, api.ErrArg)
		}
		for n := 1; n <= 32; n++ {
			last := 80 - 2*n - 4
			for _, first := range []int{math.MinInt, -1, last + 1, last + 2, 80, math.MaxInt - 68, math.MaxInt} {
				check(first, n, api.ErrArg)
			}
			for _, first := range []int{0, 1, last - 1, last} {
				check(first, n, right)
			}
		}
	}
}

// P11.2: where no record was saved, there are no slots.
func TestOpenNone(t *testing.T) {
	f := made(t, 6, 9)
	if s, e := slots.Open(f, 0, 1); s != nil || e != api.ErrNone {
		t.Fatal(s, e)
	}
	p := filled(1, 40, 16)
	program(t, f, 2*blockSize, headOf(p.m))
	if s, e := slots.Open(f, 0, 1); s != nil || e != api.ErrNone {
		t.Fatal(s, e)
	}
	format(t, f, layout{0, 1}, p)
	is(t, "Erase", f.Erase(0), api.OK)
	if s, e := slots.Open(f, 0, 1); s != nil || e != api.ErrNone {
		t.Fatal(s, e)
	}
}

// P11.2: opened, none runs, and nothing is changed by asking.
func TestOpen(t *testing.T) {
	p := filled(12, 1500, 77)
	f, g := made(t, 9, 9), made(t, 9, 9)
	format(t, f, layout{1, 2}, p)
	format(t, g, layout{1, 2}, p)
	s := opened(t, f, layout{1, 2})
	if s.Running() != -1 {
		t.Fatal(s.Running())
	}
	record(t, s, rec(0, -1, 0, 12, 0))
	holds(t, s, 0, p)
	for _, slot := range []int{1, 2, -1, math.MinInt, math.MaxInt} {
		empty(t, s, slot)
	}
	missing(t, s)
	is(t, "Commit", s.Commit(), api.ErrOrder)
	is(t, "Back", s.Back(), api.ErrOrder)
	is(t, "Try", s.Try(), api.ErrOrder)
	is(t, "Verify", s.Verify(), api.ErrOrder)
	is(t, "Put", s.Put(0, p.b[:77]), api.ErrOrder)
	alike(t, f, g)
}

// P11.2: what is told is the caller's own, and what is handed in stays as it is.
func TestShared(t *testing.T) {
	f, s := formatted(t, 2)
	p, q := filled(2, 1500, 100), filled(2, 1500, 100)
	takeIn(t, s, p)
	is(t, "Put again", s.Put(3, p.chunks()[3]), api.OK)
	is(t, "Format", slots.Format(made(t, 8, 1), 0, 2, p.m, p.b), api.OK)
	if !same(p.m, q.m) || !bytes.Equal(p.b, q.b) {
		t.Fatal("what was handed in was changed")
	}
	clear(p.b)
	clear(p.m.Sums)
	for range 2 {
		holds(t, s, 1, q)
		m, _ := s.Manifest(1)
		b, _ := s.Image(1)
		clear(m.Sums)
		clear(b)
	}
	holds(t, opened(t, f, layout{0, 2}), 1, q)
}

// with is slots whose slot 1 has these bytes in its header, ahead of what was not programmed.
func with(t testing.TB, n int, b []byte) *slots.Slots {
	t.Helper()
	f, s := formatted(t, n)
	is(t, "Erase", f.Erase(3+n), api.OK)
	program(t, f, (3+n)*blockSize, b)
	return s
}

// P11.2: a header with one bit turned is none.
func TestSpoiltHeader(t *testing.T) {
	p := filled(2, 70, 32)
	h := headOf(p.m)
	if m, has := with(t, 1, h).Manifest(1); !has || !same(m, p.m) {
		t.Fatal(m, has)
	}
	for bit := range len(h) * 8 {
		b := bytes.Clone(h)
		b[bit/8] ^= 1 << (bit % 8)
		empty(t, with(t, 1, b), 1)
	}
	h[0] = 128
	empty(t, with(t, 1, h), 1)
	h[0], h[len(h)-1] = 0, 255
	empty(t, with(t, 1, h), 1)
}

// P11.2: a header that was programmed, or erased, by halves is none.
func TestHeaderByHalves(t *testing.T) {
	for _, p := range []image{filled(2, 70, 32), filled(255, 1024, 16), filled(2, 1, 1024)} {
		h := headOf(p.m)
		for n := range h {
			empty(t, with(t, 1, h[:n]), 1)
			b := bytes.Clone(h)
			for i := range n + 1 {
				b[i] = 255
			}
			empty(t, with(t, 1, b), 1)
		}
	}
}

// P11.2: bytes whose sum is theirs, but that are no manifest's, of all lengths; and such as would end beyond the block.
func TestHeaderOfNoManifest(t *testing.T) {
	p := filled(2, 70, 32)
	c := code(p.m)
	for length := range 1030 {
		b := bytes.Repeat([]byte{3}, length)
		copy(b, c)
		h := head(length, b)
		s := with(t, 1, h[:min(len(h), blockSize)])
		if length == len(c) {
			if m, has := s.Manifest(1); !has || !same(m, p.m) {
				t.Fatal(m, has)
			}
			continue
		}
		empty(t, s, 1)
		missing(t, s)
		is(t, "Put", s.Put(0, p.b[:32]), api.ErrOrder)
	}
	for _, length := range []int{len(c) - 1, len(c) + 1, len(c) + 256, len(c) << 8, 1016, 1017, 1018, 1019, 65535} {
		empty(t, with(t, 1, head(length, c)), 1)
		empty(t, with(t, 1, append(head(length, c), make([]byte, 300)...)), 1)
	}
	empty(t, with(t, 1, make([]byte, blockSize)), 1)
	empty(t, with(t, 1, bytes.Repeat([]byte{255}, blockSize)), 1)
	for _, m := range oddManifests(p.m) {
		if len(m.Sums) == len(p.m.Sums) && slices.Max(m.Sums) >= 1<<24 {
			continue // three bytes hold no such sum
		}
		empty(t, with(t, 1, headOf(m)), 1)
	}
}

// P11.2: an image that a slot has no room for is none.
func TestManifestTooGreat(t *testing.T) {
	for n := 1; n <= 31; n++ {
		p := filled(2, 1024*n, 1024)
		if m, has := with(t, n, headOf(p.m)).Manifest(1); !has || !same(m, p.m) {
			t.Fatal(n, m, has)
		}
		s := with(t, n, headOf(filled(2, 1024*n+1, 1024).m))
		empty(t, s, 1)
		missing(t, s)
		is(t, "Verify", s.Verify(), api.ErrOrder)
		is(t, "Try", s.Try(), api.ErrOrder)
	}
}

// P11.2: other bytes of a header, and other slots' data, say nothing of a manifest.
func TestRestOfHeader(t *testing.T) {
	p := filled(2, 70, 32)
	h := slices.Concat(headOf(p.m), make([]byte, blockSize))[:blockSize]
	s := with(t, 1, h)
	if m, has := s.Manifest(1); !has || !same(m, p.m) {
		t.Fatal(m, has)
	}
	missing(t, s)
	if b, has := s.Image(1); !has || !bytes.Equal(b, bytes.Repeat([]byte{255}, 70)) {
		t.Fatal(b, has)
	}
}

// P11.2: what stands about the slots like a third one is none.
func TestNoThirdSlot(t *testing.T) {
	f := made(t, 12, 9)
	p := filled(2, 70, 32)
	for _, block := range []int{0, 9} { // first is 1, and a slot has three blocks
		program(t, f, block*blockSize, headOf(p.m))
	}
	format(t, f, layout{1, 2}, filled(1, 50, 32))
	s := opened(t, f, layout{1, 2})
	for _, slot := range []int{-2, -1, 1, 2, 3} {
		empty(t, s, slot)
	}
}

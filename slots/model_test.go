package slots_test

import (
	"bytes"
	"crypto/sha256"
	"math/rand"
	"slices"
	"testing"

	"pennant/api"
	"pennant/boot"
	"pennant/flash"
	"pennant/slots"
)

// This is the chapter again, by other means: the hash is the library's, the sum goes bit by bit, bytes are laid out by hand; what a call changes is a list, told ahead of doing it.

const (
	blockSize  = 1024
	thereAt    = 800
	verifiedAt = 960
)

// source is the same numbers in each run of the tests.
func source(seed int64) *rand.Rand { return rand.New(rand.NewSource(seed)) }

// sum24 is the check sum, bit by bit.
func sum24(b []byte) uint32 {
	sum := uint32(0xB704CE)
	for _, x := range b {
		sum ^= uint32(x) << 16
		for range 8 {
			sum *= 2
			if sum >= 1<<24 {
				sum ^= 0x1864CFB
			}
		}
	}
	return sum
}

// cut is a text's pieces of n bytes, the last one what is left.
func cut(b []byte, n int) [][]byte { return slices.Collect(slices.Chunk(b, n)) }

// needs is how many pieces a size needs, counted one by one.
func needs(size, piece int) int {
	n := 0
	for size > 0 {
		size -= piece
		n++
	}
	return n
}

// may tells whether a manifest may be.
func may(m api.Manifest) bool {
	if m.Version < 1 || m.Version > 1<<30 || m.Size < 1 || m.Size > 1<<15 || m.Chunk < 16 || m.Chunk > 1024 {
		return false
	}
	return needs(m.Size, m.Chunk) <= 128 && len(m.Sums) == needs(m.Size, m.Chunk) && slices.Max(m.Sums) < 1<<24
}

// tells is the manifest of an image.
func tells(version int, image []byte, chunk int) api.Manifest {
	m := api.Manifest{Version: version, Size: len(image), Chunk: chunk, Hash: sha256.Sum256(image)}
	for _, c := range cut(image, chunk) {
		m.Sums = append(m.Sums, sum24(c))
	}
	return m
}

// isWhole tells whether bytes are the image of a manifest.
func isWhole(m api.Manifest, b []byte) bool {
	return may(m) && len(b) == m.Size && sha256.Sum256(b) == m.Hash
}

// same tells whether two manifests are alike, nil and empty being the same.
func same(m, w api.Manifest) bool {
	return m.Version == w.Version && m.Size == w.Size && m.Chunk == w.Chunk && m.Hash == w.Hash && slices.Equal(m.Sums, w.Sums)
}

// low puts the n lowest bytes of a number behind bytes, the lowest first.
func low(b []byte, x, n int) []byte {
	for range n {
		b = append(b, byte(x))
		x >>= 8
	}
	return b
}

func number(b []byte) int {
	n := 0
	for i, x := range b {
		n += int(x) << (8 * i)
	}
	return n
}

// code is a manifest as bytes, whether it may be or not.
func code(m api.Manifest) []byte {
	b := low(nil, m.Version-1, 4)
	b = low(b, m.Size-1, 2)
	b = low(b, m.Chunk-16, 2)
	b = append(b, 0) // 32 bytes less 32
	b = append(b, m.Hash[:]...)
	b = low(b, len(m.Sums)-1, 1)
	for _, sum := range m.Sums {
		b = low(b, int(sum), 3)
	}
	return b
}

// head is what a header with such a code, and such a length, begins with.
func head(length int, code []byte) []byte {
	text := append(low(nil, length, 2), code...)
	sum := sum24(text)
	return slices.Concat([]byte{0}, text, []byte{byte(sum >> 16), byte(sum >> 8), byte(sum), 0})
}

// headOf is what the header of a manifest begins with.
func headOf(m api.Manifest) []byte { return head(len(code(m)), code(m)) }

// read is the manifest that a header block begins with: the one that, laid out again, is what stands there.
func read(block []byte) (api.Manifest, bool) {
	b := block[3:]
	m := api.Manifest{Version: number(b[:4]) + 1, Size: number(b[4:6]) + 1, Chunk: number(b[6:8]) + 16, Hash: [32]byte(b[9:41])}
	for i := range int(b[41]) + 1 {
		m.Sums = append(m.Sums, uint32(number(b[42+3*i:45+3*i])))
	}
	if !may(m) || !bytes.HasPrefix(block, headOf(m)) {
		return api.Manifest{}, false
	}
	return m, true
}

// change is a block that is erased, if b is nil, or bytes that are programmed from at on.
type change struct {
	at int
	b  []byte
}

// do does changes up to the first error.
func do(f *flash.Flash, l []change) api.Errno {
	for _, c := range l {
		e := api.OK
		if c.b == nil {
			e = f.Erase(c.at)
		} else {
			e = f.Program(c.at, c.b)
		}
		if e != api.OK {
			return e
		}
	}
	return api.OK
}

// layout is where slots stand.
type layout struct{ first, n int }

// header and data are where those of a slot begin, in bytes.
func (l layout) header(slot int) int { return (l.first + 2 + slot*(l.n+1)) * blockSize }

func (l layout) data(slot int) int { return l.header(slot) + blockSize }

// renew is a slot's header erased, and as many data blocks as so many bytes need.
func (l layout) renew(slot, size int) []change {
	c := []change{{at: l.header(slot) / blockSize}}
	for i := range needs(size, blockSize) {
		c = append(c, change{at: l.data(slot)/blockSize + i})
	}
	return c
}

// mark is a byte of a slot's header that tells something.
func (l layout) mark(slot, i int) change { return change{l.header(slot) + i, []byte{0}} }

// format is what Format changes, ahead of the boot keeper.
func (l layout) format(m api.Manifest, image []byte) []change {
	c := []change{{at: l.first}, {at: l.first + 1}, {at: l.header(1) / blockSize}}
	c = append(c, l.renew(0, m.Size)...)
	for i, b := range cut(image, blockSize) {
		c = append(c, change{l.data(0) + i*blockSize, b})
	}
	c = append(c, change{l.header(0), headOf(m)})
	for i := range m.Sums {
		c = append(c, l.mark(0, thereAt+i))
	}
	return append(c, l.mark(0, verifiedAt))
}

// slow is second slots.
type slow struct {
	layout
	f       *flash.Flash
	k       *boot.Keeper
	running int
}

// bytesAt are so many bytes, read by thirty-twos; none, if the flash cannot be read.
func bytesAt(f *flash.Flash, at, n int) []byte {
	var l []byte
	for ; n > 0; n -= 32 {
		b, e := f.Read(at+len(l), min(n, 32))
		if e != api.OK {
			return nil
		}
		l = append(l, b...)
	}
	return l
}

func (s *slow) has(slot int) (api.Manifest, bool) {
	if slot != 0 && slot != 1 || s.f.Off() {
		return api.Manifest{}, false
	}
	m, is := read(bytesAt(s.f, s.header(slot), blockSize))
	if !is || m.Size > 1024*s.n {
		return api.Manifest{}, false
	}
	return m, true
}

func (s *slow) image(slot int) ([]byte, bool) {
	m, is := s.has(slot)
	if !is {
		return nil, false
	}
	return bytesAt(s.f, s.data(slot), m.Size), true
}

func (s *slow) target() int { return []int{1, 0}[s.k.Record().Active] }

func (s *slow) trial() bool { return s.k.Record().Trial >= 0 }

func (s *slow) marked(i int) bool { return bytesAt(s.f, s.header(s.target())+i, 1)[0] == 0 }

func (s *slow) missing() []int {
	m, _ := s.has(s.target())
	var l []int
	for i := range m.Sums {
		if !s.marked(thereAt + i) {
			l = append(l, i)
		}
	}
	return l
}

func (s *slow) boot(most int) (int, api.Errno) {
	next, slot := boot.Next(s.k.Record(), most)
	if next != s.k.Record() {
		if e := s.k.Save(next); e != api.OK {
			s.running = -1
			return 0, e
		}
	}
	s.running = slot
	return slot, api.OK
}

func (s *slow) begin(m api.Manifest) api.Errno {
	if !may(m) {
		return api.ErrArg
	}
	if m.Size > 1024*s.n {
		return api.ErrFull
	}
	if s.trial() {
		return api.ErrOrder
	}
	if has, is := s.has(s.target()); is && same(has, m) {
		return api.OK
	}
	return do(s.f, append(s.renew(s.target(), m.Size), change{s.header(s.target()), headOf(m)}))
}

func (s *slow) put(i int, b []byte) api.Errno {
	m, is := s.has(s.target())
	if s.trial() || !is {
		return api.ErrOrder
	}
	if i < 0 || i >= len(m.Sums) || len(b) != min(m.Chunk, m.Size-i*m.Chunk) || sum24(b) != m.Sums[i] {
		return api.ErrForm
	}
	if s.marked(thereAt + i) {
		return api.OK
	}
	return do(s.f, []change{{s.data(s.target()) + i*m.Chunk, b}, s.mark(s.target(), thereAt+i)})
}

func (s *slow) verify() api.Errno {
	m, is := s.has(s.target())
	if s.trial() || !is {
		return api.ErrOrder
	}
	if len(s.missing()) > 0 {
		return api.ErrNone
	}
	if b, _ := s.image(s.target()); !isWhole(m, b) {
		if e := do(s.f, s.renew(s.target(), 0)); e != api.OK {
			return e
		}
		return api.ErrForm
	}
	if s.marked(verifiedAt) {
		return api.OK
	}
	return do(s.f, []change{s.mark(s.target(), verifiedAt)})
}

func (s *slow) try() api.Errno {
	m, is := s.has(s.target())
	if s.trial() || !is || !s.marked(verifiedAt) {
		return api.ErrOrder
	}
	b := s.k.Record()
	if b.Active == 0 {
		return s.k.Save(rec(0, 1, 0, b.Versions[0], m.Version))
	}
	return s.k.Save(rec(1, 0, 0, m.Version, b.Versions[1]))
}

func (s *slow) commit() api.Errno {
	b := s.k.Record()
	if b.Trial < 0 || b.Trial != s.running {
		return api.ErrOrder
	}
	return s.k.Save(rec(b.Trial, -1, 0, b.Versions[0], b.Versions[1]))
}

func (s *slow) back() api.Errno {
	b := s.k.Record()
	if b.Trial < 0 {
		return api.ErrOrder
	}
	return s.k.Save(rec(b.Active, -1, 0, b.Versions[0], b.Versions[1]))
}

// both is slots and slow ones, each on a flash of its own.
type both struct {
	layout
	f, g *flash.Flash
	s    *slots.Slots
	w    *slow
	gone bool // a trial was begun over by slots whose record knew nothing of it
}

// begun is both, formatted with an image.
func begun(t testing.TB, l layout, blocks, wear int, p image) *both {
	t.Helper()
	x := &both{layout: l, f: made(t, blocks, wear), g: made(t, blocks, wear)}
	format(t, x.f, l, p)
	if e := do(x.g, l.format(p.m, p.b)); e != api.OK {
		t.Fatal(e)
	}
	k, _ := boot.Open(x.g, l.first)
	if e := k.Save(rec(0, -1, 0, p.m.Version, 0)); e != api.OK {
		t.Fatal(e)
	}
	x.open(t)
	return x
}

func (x *both) open(t testing.TB) {
	t.Helper()
	s, e := slots.Open(x.f, x.first, x.n)
	k, w := boot.Open(x.g, x.first)
	if e != w {
		t.Fatalf("Open: %d, not %d", e, w)
	}
	if e == api.OK {
		x.s, x.w = s, &slow{layout: x.layout, f: x.g, k: k, running: -1}
	}
	x.alike(t)
}

func (x *both) power() {
	x.f.Power()
	x.g.Power()
}

func (x *both) arm(changes, left int) {
	x.f.Arm(changes, left)
	x.g.Arm(changes, left)
}

func (x *both) program(at int, b []byte) {
	x.f.Program(at, b)
	x.g.Program(at, b)
}

// alike fails if both part, in what they tell, or in their flashes.
func (x *both) alike(t testing.TB) {
	t.Helper()
	if x.s.Record() != x.w.k.Record() || x.s.Running() != x.w.running {
		t.Fatalf("%v, and %d runs, not %v, and %d", x.s.Record(), x.s.Running(), x.w.k.Record(), x.w.running)
	}
	if got, want := x.s.Missing(), x.w.missing(); !slices.Equal(got, want) {
		t.Fatalf("missing: %v, not %v", got, want)
	}
	for slot := -1; slot <= 2; slot++ {
		m, is := x.s.Manifest(slot)
		w, has := x.w.has(slot)
		if is != has || !same(m, w) {
			t.Fatalf("the manifest of %d: %v, %t, not %v, %t", slot, m, is, w, has)
		}
		b, is := x.s.Image(slot)
		want, has := x.w.image(slot)
		if is != has || !bytes.Equal(b, want) {
			t.Fatalf("the image of %d: %x, %t, not %x, %t", slot, b, is, want, has)
		}
	}
	alike(t, x.f, x.g)
}

// kept fails if a device that began now would begin with what is not whole.
func (x *both) kept(t testing.TB) {
	t.Helper()
	if x.f.Off() || x.gone {
		return
	}
	s, e := slots.Open(x.f, x.first, x.n)
	if e != api.OK {
		t.Fatal(e)
	}
	for _, most := range []int{0, 16} {
		_, slot := boot.Next(s.Record(), most)
		m, is := s.Manifest(slot)
		if b, has := s.Image(slot); !is || !has || !isWhole(m, b) || m.Version != s.Record().Versions[slot] {
			t.Fatalf("%v: the slot %d is not whole", s.Record(), slot)
		}
	}
}

// answer fails if a call of the two answered unlike things.
func (x *both) answer(t testing.TB, what string, got, want api.Errno) api.Errno {
	t.Helper()
	if got != want {
		t.Fatalf("%s: %d, not %d", what, got, want)
	}
	x.alike(t)
	x.kept(t)
	return got
}

func (x *both) boot(t testing.TB, most int) api.Errno {
	t.Helper()
	slot, e := x.s.Boot(most)
	want, w := x.w.boot(most)
	if slot != want {
		t.Fatalf("Boot(%d): %d, not %d", most, slot, want)
	}
	return x.answer(t, "Boot", e, w)
}

// hidden tells whether there is a trial that the record knows nothing of: that of a Try whose power went behind its last byte, as is seen only by slots that are opened again.
func (x *both) hidden() bool {
	k, e := boot.Open(x.g, x.first)
	return e == api.OK && k.Record().Trial >= 0 && !x.w.trial()
}

func (x *both) begin(t testing.TB, m api.Manifest) api.Errno {
	t.Helper()
	if has, _ := x.w.has(x.w.target()); !same(has, m) && x.hidden() {
		x.gone = true
	}
	return x.answer(t, "Begin", x.s.Begin(m), x.w.begin(m))
}

func (x *both) put(t testing.TB, i int, b []byte) api.Errno {
	t.Helper()
	return x.answer(t, "Put", x.s.Put(i, b), x.w.put(i, b))
}

func (x *both) verify(t testing.TB) api.Errno {
	t.Helper()
	return x.answer(t, "Verify", x.s.Verify(), x.w.verify())
}

func (x *both) try(t testing.TB) api.Errno {
	t.Helper()
	return x.answer(t, "Try", x.s.Try(), x.w.try())
}

func (x *both) commit(t testing.TB) api.Errno {
	t.Helper()
	return x.answer(t, "Commit", x.s.Commit(), x.w.commit())
}

func (x *both) back(t testing.TB) api.Errno {
	t.Helper()
	return x.answer(t, "Back", x.s.Back(), x.w.back())
}

// putMissing puts the missing chunks of an image in, up to the first error.
func (x *both) putMissing(t testing.TB, p image) {
	t.Helper()
	for _, i := range x.s.Missing() {
		if i >= len(p.chunks()) || x.put(t, i, p.chunks()[i]) != api.OK {
			return
		}
	}
}

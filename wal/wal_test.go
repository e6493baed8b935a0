package wal_test

import (
	"bytes"
	"math/rand"
	"slices"
	"testing"

	"pennant/api"
	"pennant/disk"
	"pennant/wal"
)

const (
	sectorSize    = 128
	maxNumber     = 1 << 30
	maxGeneration = 1 << 20
	longest       = 4096
)

// source is the same numbers in each run of the tests.
func source(seed int64) *rand.Rand { return rand.New(rand.NewSource(seed)) }

// text is n bytes by chance.
func text(r *rand.Rand, n int) []byte {
	b := make([]byte, n)
	r.Read(b)
	return b
}

// all is n bytes that are alike.
func all(n int, x byte) []byte { return bytes.Repeat([]byte{x}, n) }

func join(parts ...[]byte) []byte { return slices.Concat(parts...) }

// four is a number in four bytes, the lowest first.
func four(n int) []byte {
	var b []byte
	for range 4 {
		b = append(b, byte(n%256))
		n /= 256
	}
	return b
}

// headOf is a head's 24 bytes.
func headOf(number, generation, length int) []byte {
	three := join(four(number), four(generation), four(length))
	return join(three, three)
}

func piece(kind byte, b []byte) []byte { return join([]byte{kind}, four(len(b)), b) }

// half is how many sectors a bank has.
func half(sectors int) int { return (sectors - 2) / 2 }

func made(t testing.TB, sectors int) *disk.Disk {
	t.Helper()
	d, e := disk.New(sectors)
	if e != api.OK {
		t.Fatalf("disk.New(%d): %d", sectors, e)
	}
	return d
}

// put lets bytes stand on a disk, from a sector on.
func put(t testing.TB, d *disk.Disk, k int, b []byte) {
	t.Helper()
	for part := range slices.Chunk(b, sectorSize) {
		if e := d.Write(k, part); e != api.OK {
			t.Fatalf("Write(%d): %d", k, e)
		}
		k++
	}
	if e := d.Sync(); e != api.OK {
		t.Fatalf("Sync: %d", e)
	}
}

// sectors are all of a disk, as they are now.
func sectors(t testing.TB, d *disk.Disk) [][]byte {
	t.Helper()
	var l [][]byte
	for k := range d.Len() {
		b, e := d.Read(k)
		if e != api.OK {
			t.Fatalf("Read(%d): %d", k, e)
		}
		l = append(l, b)
	}
	return l
}

// opened is a log of a disk that has one.
func opened(t testing.TB, d *disk.Disk) *wal.Log {
	t.Helper()
	l, _, _, e := wal.Open(d)
	if e != api.OK || l == nil {
		t.Fatalf("Open: %v, %d", l, e)
	}
	return l
}

// tells fails if a disk, opened, does not tell that state and these records.
func tells(t testing.TB, d *disk.Disk, state []byte, records ...[]byte) {
	t.Helper()
	l, s, r, e := wal.Open(d)
	if e != api.OK || l == nil {
		t.Fatalf("Open: %v, %d", l, e)
	}
	if !bytes.Equal(s, state) || !slices.EqualFunc(r, records, bytes.Equal) {
		t.Fatalf("Open: %x, %x, not %x, %x", s, r, state, records)
	}
}

// refused fails if Open tells anything.
func refused(t testing.TB, d *disk.Disk, want api.Errno) {
	t.Helper()
	if l, s, r, e := wal.Open(d); e != want || l != nil || len(s) != 0 || len(r) != 0 {
		t.Fatalf("Open: %v, %x, %x, %d, not %d", l, s, r, e, want)
	}
}

func checkpoint(t testing.TB, l *wal.Log, state []byte, want api.Errno) {
	t.Helper()
	if e := l.Checkpoint(state); e != want {
		t.Fatalf("Checkpoint of %d bytes: %d, not %d", len(state), e, want)
	}
}

func appendTo(t testing.TB, l *wal.Log, b []byte, want api.Errno) {
	t.Helper()
	if e := l.Append(b); e != want {
		t.Fatalf("Append of %d bytes: %d, not %d", len(b), e, want)
	}
}

func commit(t testing.TB, l *wal.Log, want api.Errno) {
	t.Helper()
	if e := l.Commit(); e != want {
		t.Fatalf("Commit: %d, not %d", e, want)
	}
}

// is fails if a log does not tell that room, and whether it is broken.
func is(t testing.TB, l *wal.Log, room int, broken bool) {
	t.Helper()
	if l.Room() != room || l.Broken() != broken {
		t.Fatalf("Room %d, not %d; broken: %t, not %t", l.Room(), room, l.Broken(), broken)
	}
}

// broken fails if a log answers anything but that it is broken, or changes its disk.
func broken(t testing.TB, l *wal.Log, size int) {
	t.Helper()
	is(t, l, 0, true)
	if l.Size() != size {
		t.Fatalf("Size: %d, not %d", l.Size(), size)
	}
	checkpoint(t, l, nil, api.ErrBroken)
	checkpoint(t, l, make([]byte, size+1), api.ErrBroken)
	appendTo(t, l, nil, api.ErrBroken)
	appendTo(t, l, make([]byte, longest+1), api.ErrBroken)
	commit(t, l, api.ErrBroken)
	is(t, l, 0, true)
}

// The chapter's examples, and P7.2, P7.3: what they leave.
func TestKnownLog(t *testing.T) {
	d := made(t, 10)
	tells(t, d, nil)
	l := opened(t, d)
	is(t, l, 0, false)
	checkpoint(t, l, []byte{7}, api.OK)
	is(t, l, 512-6, false)
	tells(t, d, []byte{7})
	appendTo(t, l, []byte{1, 2}, api.OK)
	is(t, l, 512-6-7, false)
	tells(t, d, []byte{7})
	commit(t, l, api.OK)
	is(t, l, 512-6-7, false)
	tells(t, d, []byte{7}, []byte{1, 2})
	d.Crash(nil, -1, 0)
	tells(t, d, []byte{7}, []byte{1, 2})
}

// P7.2, P7.3: each byte of a disk, behind two Checkpoints and three records.
func TestKnownBytes(t *testing.T) {
	d := made(t, 7)
	l := opened(t, d)
	checkpoint(t, l, []byte("one"), api.OK)
	checkpoint(t, l, []byte("state"), api.OK)
	appendTo(t, l, []byte("a"), api.OK)
	appendTo(t, l, nil, api.OK)
	commit(t, l, api.OK)
	appendTo(t, l, all(120, 9), api.OK)
	commit(t, l, api.OK)
	pieces := join(piece(2, []byte("state")), piece(3, []byte("a")), piece(3, nil), piece(3, all(120, 9)))
	want := made(t, 7)
	put(t, want, 0, headOf(4, 2, len(pieces)))
	put(t, want, 1, headOf(3, 2, 21))
	put(t, want, 2, pieces)
	put(t, want, 4, piece(2, []byte("one")))
	if a, b := sectors(t, d), sectors(t, want); !slices.EqualFunc(a, b, bytes.Equal) {
		t.Fatalf("%x\nnot\n%x", a, b)
	}
}

// P7.2: a state's parts have 1024 bytes, but the last one; the smallest state has a piece too.
func TestStatesOfEachLength(t *testing.T) {
	r := source(71)
	d := made(t, 200)
	l := opened(t, d)
	size := half(200) * sectorSize
	generation := 0
	for _, n := range []int{0, 1, 127, 128, 1023, 1024, 1025, 2047, 2048, 2049, 3072, 5000, 10240, 12000} {
		state := text(r, n)
		checkpoint(t, l, state, api.OK)
		tells(t, d, state)
		generation++
		var want []byte
		rest := state
		for len(rest) > 1024 {
			want = join(want, piece(1, rest[:1024]))
			rest = rest[1024:]
		}
		want = join(want, piece(2, rest))
		is(t, l, size-len(want), false)
		got := join(sectors(t, d)[2+generation%2*half(200):]...)
		if !bytes.Equal(got[:len(want)], want) {
			t.Fatalf("a state of %d bytes: %x, not %x", n, got[:len(want)], want)
		}
		if b, _ := d.Read(generation % 2); !bytes.Equal(b[:24], headOf(generation, generation, len(want))) {
			t.Fatalf("a state of %d bytes: the head %x", n, b)
		}
	}
}

// P7.2: a state whose pieces are as long as a bank is taken, a longer one not, and nothing is changed by it.
func TestFullBank(t *testing.T) {
	for _, c := range []struct{ sectors, most int }{
		{6, 256 - 5}, {7, 256 - 5}, {10, 512 - 5},
		{18, 1024 - 5},           // one part, as 1024 bytes have no room
		{20, 1152 - 10},          // two parts
		{4096, 2047*128 - 255*5}, // 255 parts
	} {
		d := made(t, c.sectors)
		l := opened(t, d)
		checkpoint(t, l, all(c.most+1, 1), api.ErrFull)
		is(t, l, 0, false)
		appendTo(t, l, nil, api.ErrOrder)
		tells(t, d, nil)
		checkpoint(t, l, all(c.most, 2), api.OK)
		is(t, l, 0, false)
		tells(t, d, all(c.most, 2))
		appendTo(t, l, nil, api.ErrFull)
		commit(t, l, api.OK)
		for _, n := range []int{1, 2, 1 << 20} {
			checkpoint(t, l, all(c.most+n, 3), api.ErrFull)
		}
		is(t, l, 0, false)
		tells(t, d, all(c.most, 2))
		checkpoint(t, l, nil, api.OK)
		is(t, l, l.Size()-5, false)
		tells(t, d, nil)
	}
}

// P7.2: a state that is refused leaves the records that wait; one that is taken lets none of them wait.
func TestCheckpointAndWhatWaits(t *testing.T) {
	d := made(t, 10)
	l := opened(t, d)
	checkpoint(t, l, []byte{1}, api.OK)
	appendTo(t, l, []byte{2}, api.OK)
	checkpoint(t, l, make([]byte, 600), api.ErrFull)
	is(t, l, 512-12, false)
	commit(t, l, api.OK)
	tells(t, d, []byte{1}, []byte{2})
	appendTo(t, l, []byte{3}, api.OK)
	checkpoint(t, l, []byte{4}, api.OK)
	is(t, l, 512-6, false)
	d.Plan([]byte{2})
	commit(t, l, api.OK)
	d.Plan(nil)
	tells(t, d, []byte{4})
}

// P7.3: errors, in the order in which they are named, ahead of the first Checkpoint and behind it.
func TestErrorsOfRecords(t *testing.T) {
	d := made(t, 10)
	put(t, d, 1, headOf(1, 1, 12))
	put(t, d, 2+4, join(piece(2, []byte{1}), piece(3, []byte{2})))
	l := opened(t, d)
	d.Plan([]byte{2}) // nothing of this changes the disk
	for _, n := range []int{0, 1, longest, longest + 1} {
		appendTo(t, l, make([]byte, n), api.ErrOrder)
	}
	commit(t, l, api.ErrOrder)
	checkpoint(t, l, make([]byte, 508), api.ErrFull)
	appendTo(t, l, nil, api.ErrOrder)
	commit(t, l, api.ErrOrder)
	is(t, l, 0, false)
	d.Plan(nil)
	checkpoint(t, l, nil, api.OK)
	d.Plan([]byte{2})
	appendTo(t, l, make([]byte, longest+1), api.ErrArg)
	appendTo(t, l, make([]byte, 1<<20), api.ErrArg)
	appendTo(t, l, make([]byte, longest), api.ErrFull)
	appendTo(t, l, make([]byte, 503), api.ErrFull)
	commit(t, l, api.OK)
	is(t, l, 507, false)
	appendTo(t, l, make([]byte, 502), api.OK)
	is(t, l, 0, false)
	appendTo(t, l, nil, api.ErrFull)
	d.Plan(nil)
	tells(t, d, nil)
	commit(t, l, api.OK)
	tells(t, d, nil, make([]byte, 502))
}

// P7.3: room goes down by each record that waits; a piece that is just as long as what is left is taken, a longer one not.
func TestRoom(t *testing.T) {
	d := made(t, 6)
	l := opened(t, d)
	checkpoint(t, l, nil, api.OK)
	var want [][]byte
	for room := 256 - 5; room > 0; {
		b := all(min(40, room-5), byte(room))
		if room < 50 {
			b = all(room-5, 1)
		}
		is(t, l, room, false)
		appendTo(t, l, make([]byte, room-5+1), api.ErrFull)
		appendTo(t, l, b, api.OK)
		want = append(want, b)
		room -= 5 + len(b)
		is(t, l, room, false)
	}
	commit(t, l, api.OK)
	is(t, l, 0, false)
	commit(t, l, api.OK)
	tells(t, d, nil, want...)
	is(t, opened(t, d), 0, false)
}

// P7.3: a record of 4096 bytes is told; one more byte is not taken, however much room there is.
func TestLongestRecord(t *testing.T) {
	d := made(t, 4096)
	l := opened(t, d)
	checkpoint(t, l, []byte{1}, api.OK)
	appendTo(t, l, all(longest, 7), api.OK)
	appendTo(t, l, all(longest+1, 8), api.ErrArg)
	appendTo(t, l, nil, api.OK)
	commit(t, l, api.OK)
	tells(t, d, []byte{1}, all(longest, 7), nil)
}

// P7.2, P7.3: behind the greatest number, and behind the greatest generation, nothing is written, and the log is not broken.
func TestLastNumbers(t *testing.T) {
	begin := func(number, generation int) (*disk.Disk, *wal.Log) {
		d := made(t, 10)
		put(t, d, number%2, headOf(number, generation, 6))
		put(t, d, 2+generation%2*4, piece(2, []byte{5}))
		tells(t, d, []byte{5})
		return d, opened(t, d)
	}
	for _, c := range []struct{ number, generation int }{{maxNumber, 1}, {maxNumber, 2}, {1, maxGeneration}, {2, maxGeneration}, {maxNumber, maxGeneration}} {
		d, l := begin(c.number, c.generation)
		d.Plan([]byte{2})
		checkpoint(t, l, []byte{6}, api.ErrFull)
		appendTo(t, l, nil, api.ErrOrder)
		is(t, l, 0, false)
		tells(t, d, []byte{5})
	}

	d, l := begin(maxNumber-1, maxGeneration-1)
	checkpoint(t, l, []byte{6}, api.OK)
	tells(t, d, []byte{6})
	d.Plan([]byte{2})
	checkpoint(t, l, []byte{7}, api.ErrFull)
	commit(t, l, api.OK)
	appendTo(t, l, []byte{8}, api.OK)
	commit(t, l, api.ErrFull)
	commit(t, l, api.ErrFull)
	is(t, l, 512-12, false)
	appendTo(t, l, []byte{9}, api.OK)
	is(t, l, 512-18, false)
	commit(t, l, api.ErrFull)
	tells(t, d, []byte{6})

	d, l = begin(1, maxGeneration-1)
	checkpoint(t, l, []byte{6}, api.OK)
	checkpoint(t, l, []byte{7}, api.ErrFull)
	appendTo(t, l, []byte{8}, api.OK)
	commit(t, l, api.OK)
	tells(t, d, []byte{6}, []byte{8})

	d, l = begin(maxNumber-2, 1)
	checkpoint(t, l, []byte{6}, api.OK)
	appendTo(t, l, []byte{8}, api.OK)
	commit(t, l, api.OK)
	tells(t, d, []byte{6}, []byte{8})
	appendTo(t, l, []byte{9}, api.OK)
	commit(t, l, api.ErrFull)
	checkpoint(t, l, nil, api.ErrFull)
	tells(t, d, []byte{6}, []byte{8})
}

// P7.1, P7.3: the log knows its pieces by what it did itself, not by what stands on the disk by now.
func TestPiecesAreKnown(t *testing.T) {
	d := made(t, 10)
	l := opened(t, d)
	checkpoint(t, l, all(150, 4), api.OK)
	appendTo(t, l, []byte{1}, api.OK)
	commit(t, l, api.OK)
	first := join(piece(2, all(150, 4)), piece(3, []byte{1}))
	for k := range 2 {
		put(t, d, k, all(sectorSize, 255))
	}
	put(t, d, 7, all(sectorSize, 255))
	appendTo(t, l, []byte{2}, api.OK)
	commit(t, l, api.OK)
	pieces := join(first, piece(3, []byte{2}))
	if b, _ := d.Read(7); !bytes.Equal(b, join(pieces[sectorSize:], make([]byte, 2*sectorSize-len(pieces)))) {
		t.Fatalf("the sector is %x", b)
	}
	tells(t, d, all(150, 4), []byte{1}, []byte{2})
}

// R3: what is handed in is shared with nothing, and what is told is the caller's own.
func TestNothingIsShared(t *testing.T) {
	d := made(t, 10)
	l := opened(t, d)
	state, one, two := all(20, 1), all(3, 2), all(200, 3)
	checkpoint(t, l, state, api.OK)
	appendTo(t, l, one, api.OK)
	appendTo(t, l, two, api.OK)
	if !bytes.Equal(state, all(20, 1)) || !bytes.Equal(one, all(3, 2)) || !bytes.Equal(two, all(200, 3)) {
		t.Fatal("what was handed in was changed")
	}
	clear(state)
	clear(one)
	clear(two)
	commit(t, l, api.OK)
	appendTo(t, l, []byte{9}, api.OK)
	commit(t, l, api.OK)
	want := [][]byte{all(3, 2), all(200, 3), {9}}
	tells(t, d, all(20, 1), want...)

	l, s, r, _ := wal.Open(d)
	clear(s)
	for _, b := range r {
		clear(b)
	}
	tells(t, d, all(20, 1), want...)
	_, s, r, _ = wal.Open(d)
	clear(append(s, all(64, 8)...))
	for i, b := range r {
		if !bytes.Equal(b, want[i]) {
			t.Fatalf("record %d is %x", i, b)
		}
		clear(append(b, 8, 8, 8, 8, 8, 8, 8, 8)[len(b):])
	}
	for i, b := range r {
		if !bytes.Equal(b, want[i]) {
			t.Fatalf("record %d is %x behind the others' ends", i, b)
		}
	}
	checkpoint(t, l, []byte{1}, api.OK)
	tells(t, d, []byte{1})
}

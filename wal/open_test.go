package wal_test

import (
	"testing"

	"pennant/api"
	"pennant/disk"
	"pennant/wal"
)

// P7.1: a bank is half of what is behind the heads, rounded down, and has 256 bytes at least.
func TestSizes(t *testing.T) {
	refused(t, nil, api.ErrArg)
	refused(t, new(disk.Disk), api.ErrArg)
	for n := 1; n <= 5; n++ {
		refused(t, made(t, n), api.ErrArg)
	}
	for _, c := range []struct{ sectors, size int }{
		{6, 256}, {7, 256}, {8, 384}, {9, 384}, {10, 512}, {11, 512}, {100, 49 * 128}, {4095, 2046 * 128}, {4096, 2047 * 128},
	} {
		d := made(t, c.sectors)
		tells(t, d, nil)
		l := opened(t, d)
		if l.Size() != c.size {
			t.Errorf("%d sectors: Size %d, not %d", c.sectors, l.Size(), c.size)
		}
		is(t, l, 0, false)
	}
}

// P7.1: a disk that is too small is told ahead of one without power.
func TestOpenWithoutPower(t *testing.T) {
	for _, c := range []struct {
		sectors int
		want    api.Errno
	}{{1, api.ErrArg}, {5, api.ErrArg}, {6, api.ErrOff}, {10, api.ErrOff}, {4096, api.ErrOff}} {
		d := made(t, c.sectors)
		if c.sectors > 5 {
			checkpoint(t, opened(t, d), []byte{7}, api.OK)
		}
		d.Plan([]byte{2})
		if e := d.Sync(); e != api.ErrOff {
			t.Fatal(e)
		}
		refused(t, d, c.want)
		d.Crash(nil, -1, 0)
		if c.sectors > 5 {
			tells(t, d, []byte{7})
		}
	}
}

// P7.1: Open writes nothing, and syncs nothing.
func TestOpenChangesNothing(t *testing.T) {
	d := made(t, 10)
	for _, b := range [][]byte{nil, headOf(1, 1, 6), headOf(3, 1, 600), all(sectorSize, 255)} {
		put(t, d, 1, b)
		put(t, d, 6, piece(2, []byte{7}))
		was := sectors(t, d)
		d.Plan([]byte{2})
		opened(t, d)
		if d.Off() || len(d.Dirty()) != 0 {
			t.Fatal("Open met the plan")
		}
		d.Plan(nil)
		same(t, sectors(t, d), was)
		if e := d.Write(0, nil); e != api.OK {
			t.Fatal(e)
		}
		opened(t, d)
		if l := d.Dirty(); len(l) != 1 {
			t.Fatalf("dirty: %d", l)
		}
		d.Crash(nil, -1, 0)
	}
}

// P7.1: which heads stand so, and which not; behind the first 24 bytes nothing is asked.
func TestHeads(t *testing.T) {
	const at = 1 + 1<<8 + 1<<16 // odd, and of three bytes
	for _, c := range []struct {
		name string
		k    int
		b    []byte
		is   bool
	}{
		{"the first one", 1, headOf(1, 1, 6), true},
		{"an even one", 0, headOf(2, 1, 6), true},
		{"one of three bytes", 1, headOf(at, at, 6), true},
		{"the greatest number", 0, headOf(maxNumber, 1, 6), true},
		{"the greatest generation but one", 1, headOf(1, maxGeneration-1, 6), true},
		{"the greatest length", 1, headOf(1, 1, 512), true},
		{"other bytes behind", 1, join(headOf(1, 1, 6), all(104, 255)), true},
		{"number 0", 0, headOf(0, 1, 6), false},
		{"a number that is too great", 1, headOf(maxNumber+1, 1, 6), false},
		{"a number of 31 bits", 0, headOf(1<<31, 1, 6), false},
		{"the greatest number of four bytes", 1, headOf(1<<32-1, 1, 6), false},
		{"generation 0", 1, headOf(1, 0, 6), false},
		{"a generation that is too great", 1, headOf(1, maxGeneration+1, 6), false},
		{"the greatest generation of four bytes", 1, headOf(1, 1<<32-1, 6), false},
		{"a length that is too great", 1, headOf(1, 1, 513), false},
		{"a length of 31 bits", 1, headOf(1, 1, 1<<31), false},
		{"the greatest length of four bytes", 1, headOf(1, 1, 1<<32-1), false},
		{"an odd one in the even sector", 0, headOf(1, 1, 6), false},
		{"an even one in the odd sector", 1, headOf(2, 1, 6), false},
		{"half of it", 1, headOf(1, 1, 6)[:12], false},
		{"nothing", 1, nil, false},
		{"not at the beginning", 1, join([]byte{0}, headOf(1, 1, 6)), false},
	} {
		d := made(t, 10)
		put(t, d, c.k, c.b)
		put(t, d, 2, piece(2, []byte{7}))
		put(t, d, 6, piece(2, []byte{7}))
		if c.is {
			tells(t, d, []byte{7})
		} else {
			tells(t, d, nil)
		}
		// The log goes on from the number that was found, or from 0.
		checkpoint(t, opened(t, d), []byte{8}, map[bool]api.Errno{true: api.ErrFull}[c.name == "the greatest number"])
	}
	for i := range 24 {
		for bit := range 8 {
			d := made(t, 10)
			b := headOf(1, 1, 6)
			b[i] ^= 1 << bit
			put(t, d, 1, b)
			put(t, d, 6, piece(2, []byte{7}))
			tells(t, d, nil)
		}
	}
}

// P7.1: of two heads that stand so the greater number counts; its generation says the bank.
func TestGreatestHead(t *testing.T) {
	for _, c := range []struct {
		even, odd []byte
		want      []byte
	}{
		{headOf(2, 1, 6), headOf(1, 2, 6), []byte{1}},
		{headOf(2, 2, 6), headOf(3, 1, 6), []byte{1}},
		{headOf(2, 2, 6), headOf(1, 1, 6), []byte{0}},
		{headOf(256, 2, 6), headOf(255, 1, 6), []byte{0}},
		{headOf(maxNumber, 2, 6), headOf(maxNumber-1, 1, 6), []byte{0}},
		{headOf(4, 3, 6), headOf(3, maxGeneration, 6), []byte{1}},
		{headOf(2, 2, 6), headOf(3, 1, 513), []byte{0}},
		{headOf(2, 2, 0), headOf(1, 1, 6), nil}, // no pieces, but it counts
		{headOf(0, 0, 0), headOf(1, 2, 6), []byte{0}},
	} {
		d := made(t, 10)
		put(t, d, 0, c.even)
		put(t, d, 1, c.odd)
		put(t, d, 2, piece(2, []byte{0}))
		put(t, d, 6, piece(2, []byte{1}))
		tells(t, d, c.want)
	}
}

// P7.2: the first Checkpoint goes on from the number and the generation that were found.
func TestGoesOnFromWhatWasFound(t *testing.T) {
	for _, c := range []struct{ number, generation int }{{0, 0}, {1, 1}, {2, 1}, {77, 20}, {100, 99}, {maxNumber - 1, maxGeneration - 1}} {
		d := made(t, 11)
		if c.number > 0 {
			put(t, d, c.number%2, headOf(c.number, c.generation, 6))
			put(t, d, (c.number+1)%2, headOf(c.number+1, c.generation, 513)) // no head
		}
		l := opened(t, d)
		checkpoint(t, l, []byte{9}, api.OK)
		want := made(t, 11)
		if c.number > 0 {
			put(t, want, c.number%2, headOf(c.number, c.generation, 6))
		}
		put(t, want, (c.number+1)%2, headOf(c.number+1, c.generation+1, 6))
		put(t, want, 2+(c.generation+1)%2*4, piece(2, []byte{9}))
		same(t, sectors(t, d), sectors(t, want))
	}
}

// bank is a disk whose head lets so many bytes of these count.
func bank(t *testing.T, n, length int, b []byte) *disk.Disk {
	t.Helper()
	d := made(t, n)
	put(t, d, 1, headOf(1, 2, length))
	put(t, d, 2, b)
	return d
}

// P7.1: pieces are told as long as they are whole, and of the kinds 1 .. 1 2 3 .. 3.
func TestPieces(t *testing.T) {
	one, more, last, rec := []byte{1}, piece(1, []byte("ab")), piece(2, []byte("cd")), piece(3, []byte("e"))
	for _, c := range []struct {
		name    string
		b       []byte
		state   string
		records []string
	}{
		{"nothing", nil, "", nil},
		{"a state", last, "cd", nil},
		{"an empty state", piece(2, nil), "", nil},
		{"an empty state, and a record", join(piece(2, nil), rec), "", []string{"e"}},
		{"parts", join(more, more, last), "ababcd", nil},
		{"an empty part", join(piece(1, nil), last), "cd", nil},
		{"parts, and records", join(more, last, rec, piece(3, nil), rec), "abcd", []string{"e", "", "e"}},
		{"no last part", join(more, more), "", nil},
		{"no last part, and a record", join(more, rec), "", nil},
		{"a record first", join(rec, last, rec), "", nil},
		{"a part behind the last one", join(last, more, rec), "cd", nil},
		{"two last parts", join(last, last, rec), "cd", nil},
		{"a part behind a record", join(last, rec, more, rec), "cd", []string{"e"}},
		{"a last part behind a record", join(last, rec, last, rec), "cd", []string{"e"}},
		{"kind 0 first", join(piece(0, one), last), "", nil},
		{"kind 0 behind a part", join(more, piece(0, one), last), "", nil},
		{"kind 0 behind the state", join(last, piece(0, one), rec), "cd", nil},
		{"kind 4 behind a record", join(last, rec, piece(4, one), rec), "cd", []string{"e"}},
		{"kind 255", join(last, piece(255, nil), rec), "cd", nil},
		{"noughts behind", join(last, rec, make([]byte, 9)), "cd", []string{"e"}},
		{"a kind alone", join(last, rec, []byte{3}), "cd", []string{"e"}},
		{"a front that is cut", join(last, rec, []byte{3, 0, 0, 0}), "cd", []string{"e"}},
		{"a front alone", join(last, rec, []byte{3, 1, 0, 0, 0}), "cd", []string{"e"}},
		{"a record that is cut", join(last, rec, piece(3, []byte("efg"))[:7]), "cd", []string{"e"}},
		{"a last part that is cut", join(more, last[:6]), "", nil},
		{"a part that is cut", more[:6], "", nil},
		{"a long record", join(last, []byte{3}, four(1<<31), rec), "cd", nil},
		{"the longest record", join(last, []byte{3}, four(1<<32-1), rec), "cd", nil},
		{"a length whose last byte is not 0", join(last, []byte{3, 1, 0, 0, 1, 8}, rec), "cd", nil},
	} {
		var want [][]byte
		for _, s := range c.records {
			want = append(want, []byte(s))
		}
		// What stands behind the length does not count, even if it would follow.
		d := bank(t, 10, len(c.b), join(c.b, rec, rec))
		_, s, r, e := wal.Open(d)
		if e != api.OK || string(s) != c.state || len(r) != len(want) {
			t.Errorf("%s: %q, %q, %d", c.name, s, r, e)
			continue
		}
		tells(t, d, []byte(c.state), want...)
	}
}

// P7.1: each length of a head tells just the pieces that are whole within it.
func TestEachLength(t *testing.T) {
	parts := [][]byte{piece(1, all(130, 1)), piece(2, all(60, 2)), piece(3, nil), piece(3, all(100, 3)), piece(3, all(187, 4))}
	b := join(parts...)
	if len(b) != 502 {
		t.Fatal(len(b))
	}
	for length := range 513 {
		var state []byte
		var records [][]byte
		if length >= 200 {
			state = join(all(130, 1), all(60, 2))
		}
		if length >= 205 {
			records = append(records, nil)
		}
		if length >= 310 {
			records = append(records, all(100, 3))
		}
		if length >= 502 {
			records = append(records, all(187, 4))
		}
		tells(t, bank(t, 10, length, b), state, records...)
	}
}

// P7.1: pieces of 4096 bytes are told, of any kind; a longer one ends it.
func TestLongestPieces(t *testing.T) {
	long, longer := all(longest, 5), all(longest+1, 6)
	for _, c := range []struct {
		b       []byte
		state   []byte
		records [][]byte
	}{
		{join(piece(1, long), piece(2, long), piece(3, long), piece(3, nil)), join(long, long), [][]byte{long, nil}},
		{join(piece(2, long), piece(3, longer), piece(3, nil)), long, nil},
		{join(piece(2, longer), piece(3, nil)), nil, nil},
		{join(piece(1, longer), piece(2, nil)), nil, nil},
		{join(piece(2, nil), piece(3, long), piece(3, longer)), nil, [][]byte{long}},
	} {
		tells(t, bank(t, 300, len(c.b), c.b), c.state, c.records...)
	}
}

// P7.1: what stands in a sector that is neither bank's, and in the other bank, is not told; both banks of an odd disk have one size.
func TestOddDisk(t *testing.T) {
	d := made(t, 7)
	put(t, d, 6, all(sectorSize, 255))
	l := opened(t, d)
	for x := range byte(6) {
		checkpoint(t, l, all(256-5, x), api.OK)
		tells(t, d, all(256-5, x))
	}
	if b, _ := d.Read(6); b[0] != 255 || b[127] != 255 {
		t.Errorf("the last sector is %x", b)
	}
}

package store_test

import (
	"bytes"
	"fmt"
	"math"
	"math/rand"
	"slices"
	"strings"
	"testing"

	"pennant/api"
	"pennant/disk"
	"pennant/store"
	"pennant/wal"
)

const (
	sectorSize    = 128
	maxNumber     = 1 << 30
	maxGeneration = 1 << 20
)

// source is the same numbers in each run of the tests.
func source(seed int64) *rand.Rand { return rand.New(rand.NewSource(seed)) }

func join(parts ...[]byte) []byte { return slices.Concat(parts...) }

// put and del are ops.
func put(key, value string) api.Op { return api.Op{Key: []byte(key), Value: []byte(value)} }

func del(key string) api.Op { return api.Op{Key: []byte(key), Del: true} }

// ops are a change, changes several.
func ops(l ...api.Op) []api.Op { return l }

func changes(l ...[]api.Op) [][]api.Op { return l }

// long is a text of n bytes.
func long(n int) string { return strings.Repeat("x", n) }

// two is how many bytes a text has, in two bytes, and the text.
func two(s string) []byte { return append([]byte{byte(len(s) % 256), byte(len(s) / 256)}, s...) }

// stateOf is the bytes of pairs, told as key, value, key, value ..
func stateOf(l ...string) []byte {
	var b []byte
	for _, s := range l {
		b = append(b, two(s)...)
	}
	return b
}

// changeOf is a change's bytes.
func changeOf(l ...api.Op) []byte {
	b := []byte{byte(len(l))}
	for _, op := range l {
		first := byte(0)
		if op.Del {
			first = 1
		}
		b = join(b, []byte{first}, stateOf(string(op.Key), string(op.Value)))
	}
	return b
}

func made(t testing.TB, sectors int) *disk.Disk {
	t.Helper()
	d, e := disk.New(sectors)
	if e != api.OK {
		t.Fatalf("disk.New(%d): %d", sectors, e)
	}
	return d
}

// logged is a disk with a state, and records behind it.
func logged(t testing.TB, sectors int, state []byte, records ...[]byte) *disk.Disk {
	t.Helper()
	d := made(t, sectors)
	l, _, _, e := wal.Open(d)
	if e != api.OK {
		t.Fatalf("wal.Open: %d", e)
	}
	if e := l.Checkpoint(state); e != api.OK {
		t.Fatalf("Checkpoint: %d", e)
	}
	for _, r := range records {
		if e := l.Append(r); e != api.OK {
			t.Fatalf("Append: %d", e)
		}
	}
	if e := l.Commit(); e != api.OK {
		t.Fatalf("Commit: %d", e)
	}
	return d
}

// headed is a disk with a head of that number and generation, and a state.
func headed(t testing.TB, sectors, number, generation int, state []byte) *disk.Disk {
	t.Helper()
	d := made(t, sectors)
	four := func(n int) []byte { return []byte{byte(n), byte(n >> 8), byte(n >> 16), byte(n >> 24)} }
	piece := join([]byte{2}, four(len(state)), state)
	three := join(four(number), four(generation), four(len(piece)))
	write := func(k int, b []byte) {
		if e := d.Write(k, b); e != api.OK {
			t.Fatalf("Write(%d): %d", k, e)
		}
	}
	write(number%2, join(three, three))
	k := 2 + generation%2*((sectors-2)/2)
	for part := range slices.Chunk(piece, sectorSize) {
		write(k, part)
		k++
	}
	if e := d.Sync(); e != api.OK {
		t.Fatalf("Sync: %d", e)
	}
	return d
}

func opened(t testing.TB, d *disk.Disk) *store.Store {
	t.Helper()
	s, e := store.Open(d)
	if e != api.OK || s == nil {
		t.Fatalf("Open: %v, %d", s, e)
	}
	return s
}

// refused fails if Open tells anything.
func refused(t testing.TB, d *disk.Disk, want api.Errno) {
	t.Helper()
	if s, e := store.Open(d); e != want || s != nil {
		t.Fatalf("Open: %v, %d, not %d", s, e, want)
	}
}

// lies fails if a disk does not hold that state and these records.
func lies(t testing.TB, d *disk.Disk, state []byte, records ...[]byte) {
	t.Helper()
	_, s, r, e := wal.Open(d)
	if e != api.OK || !bytes.Equal(s, state) || !slices.EqualFunc(r, records, bytes.Equal) {
		t.Fatalf("%x, %x, %d lies there, not %x, %x", s, r, e, state, records)
	}
}

func commit(t testing.TB, s *store.Store, want api.Errno, l ...api.Op) {
	t.Helper()
	if e := s.Commit(l); e != want {
		t.Fatalf("Commit: %d, not %d", e, want)
	}
}

func all(t testing.TB, s *store.Store, want api.Errno, l ...[]api.Op) {
	t.Helper()
	if e := s.All(l); e != want {
		t.Fatalf("All: %d, not %d", e, want)
	}
}

// flat is pairs as key, value, key, value ..
func flat(l []api.Pair) []string {
	var s []string
	for _, p := range l {
		s = append(s, string(p.Key), string(p.Value))
	}
	return s
}

// tells fails if a store does not tell these pairs, by every way.
func tells(t testing.TB, s *store.Store, l ...string) {
	t.Helper()
	if got := flat(s.Range(nil, math.MaxInt)); !slices.Equal(got, l) {
		t.Fatalf("%q, not %q", got, l)
	}
	if s.Len() != len(l)/2 || s.Size() != len(stateOf(l...)) {
		t.Fatalf("Len %d, Size %d of %q", s.Len(), s.Size(), l)
	}
	for i := 0; i < len(l); i += 2 {
		if v, is := s.Get([]byte(l[i])); !is || string(v) != l[i+1] {
			t.Fatalf("Get(%q): %q, %t, not %q", l[i], v, is, l[i+1])
		}
	}
}

// lacks fails if a store tells a value of a key.
func lacks(t testing.TB, s *store.Store, key string) {
	t.Helper()
	if v, is := s.Get([]byte(key)); is || len(v) != 0 {
		t.Fatalf("Get(%q): %q, %t", key, v, is)
	}
}

// The chapter's example, and P8.1: opened again, with a crash ahead and without, it is the same.
func TestKnownStore(t *testing.T) {
	d := made(t, 60)
	s := opened(t, d)
	tells(t, s)
	commit(t, s, api.OK, put("a", "1"), put("b", "2"))
	tells(t, s, "a", "1", "b", "2")
	commit(t, s, api.OK, del("a"))
	tells(t, s, "b", "2")
	lacks(t, s, "a")
	tells(t, opened(t, d), "b", "2")
	d.Crash(nil, -1, 0)
	tells(t, opened(t, d), "b", "2")
}

// Words, P8.1, P8.2: what stands on the disk, byte by byte, behind Open and behind changes.
func TestKnownBytes(t *testing.T) {
	d := made(t, 60)
	s := opened(t, d)
	lies(t, d, nil)
	commit(t, s, api.OK, put("b", "22"), del("z"))
	lies(t, d, nil, []byte{2, 0, 1, 0, 'b', 2, 0, '2', '2', 1, 1, 0, 'z', 0, 0})
	all(t, s, api.OK, ops(put("a", "")), ops(put("ab", long(300))))
	records := [][]byte{
		{2, 0, 1, 0, 'b', 2, 0, '2', '2', 1, 1, 0, 'z', 0, 0},
		{1, 0, 1, 0, 'a', 0, 0},
		join([]byte{1, 0, 2, 0, 'a', 'b', 44, 1}, []byte(long(300))),
	}
	lies(t, d, nil, records...)
	opened(t, d)
	lies(t, d, join([]byte{1, 0, 'a', 0, 0, 2, 0, 'a', 'b', 44, 1}, []byte(long(300)), []byte{1, 0, 'b', 2, 0, '2', '2'}))
}

// P8.1: each Open is one Checkpoint: the numbers of the heads tell how often the disk was written.
func TestOpenIsOneCheckpoint(t *testing.T) {
	d := made(t, 60)
	for i := 1; i <= 5; i++ {
		opened(t, d)
		b, e := d.Read(i % 2)
		if e != api.OK || b[0] != byte(i) || b[4] != byte(i) {
			t.Fatalf("behind %d times the head is %d, %d", i, b[:12], e)
		}
		if len(d.Dirty()) != 0 {
			t.Fatalf("dirty: %d", d.Dirty())
		}
	}
}

// P8.1: the errors of wal.Open, and those of the Checkpoint.
func TestErrorsOfOpen(t *testing.T) {
	refused(t, nil, api.ErrArg)
	refused(t, new(disk.Disk), api.ErrArg)
	for n := 1; n <= 5; n++ {
		refused(t, made(t, n), api.ErrArg)
	}
	opened(t, made(t, 6))

	state := stateOf("a", "1")
	for i := range 4 { // one sector, a Sync, a head, a Sync
		for bad, want := range map[byte]api.Errno{1: api.ErrIo, 2: api.ErrOff} {
			d := logged(t, 10, state)
			d.Plan(append(make([]byte, i), bad))
			refused(t, d, want)
			if bad == 2 {
				refused(t, d, api.ErrOff)
			}
			d.Crash(nil, -1, 0)
			tells(t, opened(t, d), "a", "1")
		}
	}
	d := logged(t, 10, state)
	d.Plan([]byte{0, 0, 0, 0, 2})
	tells(t, opened(t, d), "a", "1")
	if d.Off() {
		t.Fatal("more than four changes")
	}

	refused(t, headed(t, 10, maxNumber, 1, state), api.ErrFull)
	refused(t, headed(t, 10, 1, maxGeneration, state), api.ErrFull)
	tells(t, opened(t, headed(t, 10, maxNumber-1, maxGeneration-1, state)), "a", "1")
	// In parts of 1024 bytes it has two pieces more than the one in which it stands.
	refused(t, headed(t, 38, 1, 1, stateOf("a", long(1024), "b", long(1024), "c", long(235-4))), api.ErrFull)
	tells(t, opened(t, headed(t, 38, 1, 1, stateOf("a", long(1024), "b", long(1024), "c", long(225-4)))), "a", long(1024), "b", long(1024), "c", long(225-4))
}

// P8.1: what is no state's bytes, and what is no change's, is ErrForm, and nothing is written.
func TestFormsOfOpen(t *testing.T) {
	good := stateOf("a", "1", "b", "2")
	key64, key65 := long(64), long(65)
	for _, c := range []struct {
		name    string
		state   []byte
		records [][]byte
		is      bool
	}{
		{"nothing", nil, nil, true},
		{"pairs", good, nil, true},
		{"a beginning first", stateOf("a", "", "aa", "", "ab", "", "b", ""), nil, true},
		{"a beginning behind", stateOf("aa", "", "a", ""), nil, false},
		{"greater bytes", stateOf("\x7f", "", "\x80", "", "\xff", "", "\xff\x00", ""), nil, true},
		{"a byte that is less", stateOf("\x80", "", "\x7f", ""), nil, false},
		{"a nought as key", stateOf("\x00", "", "\x00\x00", ""), nil, true},
		{"not in order", stateOf("b", "2", "a", "1"), nil, false},
		{"not in order at the end", stateOf("a", "", "c", "", "b", ""), nil, false},
		{"a key twice", stateOf("a", "1", "a", "1"), nil, false},
		{"a key twice, values unlike", stateOf("a", "1", "a", "2"), nil, false},
		{"no key", stateOf("", "1"), nil, false},
		{"no key, a pair behind", stateOf("", "1", "a", "1"), nil, false},
		{"noughts", make([]byte, 4), nil, false},
		{"a key of 64 bytes", stateOf(key64, ""), nil, true},
		{"a key of 65 bytes", stateOf(key65, ""), nil, false},
		{"a key of 256 bytes", stateOf(long(256), ""), nil, false},
		{"a key of 320 bytes", stateOf(long(320), ""), nil, false},
		{"a value of 1024 bytes", stateOf("a", long(1024)), nil, true},
		{"a value of 1025 bytes", stateOf("a", long(1025)), nil, false},
		{"a value of 1280 bytes", stateOf("a", long(1280)), nil, false},
		{"one byte", []byte{1}, nil, false},
		{"how many alone", []byte{1, 0}, nil, false},
		{"a key alone", []byte{1, 0, 'a'}, nil, false},
		{"half of how many", []byte{1, 0, 'a', 0}, nil, false},
		{"a byte is missing", good[:len(good)-1], nil, false},
		{"a byte more", join(good, []byte{0}), nil, false},
		{"the highest first", []byte{0, 1, 'a', 0, 0}, nil, false},
		{"a length beyond the end", []byte{255, 255, 'a', 0, 0}, nil, false},
		{"a value's length beyond the end", []byte{1, 0, 'a', 255, 255}, nil, false},

		{"a change", good, [][]byte{changeOf(put("c", "3"))}, true},
		{"changes", good, [][]byte{changeOf(put("c", "3")), changeOf(del("c"), del("c"))}, true},
		{"an empty record", good, [][]byte{nil}, false},
		{"no ops", good, [][]byte{changeOf()}, false},
		{"no ops, and bytes", good, [][]byte{join(changeOf(), changeOf(put("c", "3"))[1:])}, false},
		{"32 ops", good, [][]byte{changeOf(slices.Repeat(ops(del("c")), 32)...)}, true},
		{"33 ops", good, [][]byte{changeOf(slices.Repeat(ops(del("c")), 33)...)}, false},
		{"an op too few", good, [][]byte{join([]byte{2}, changeOf(put("c", "3"))[1:])}, false},
		{"an op too much", good, [][]byte{join([]byte{1}, changeOf(put("c", "3"), put("d", "4"))[1:])}, false},
		{"a value, though Del", good, [][]byte{{1, 1, 1, 0, 'a', 1, 0, '1'}}, false},
		{"neither 0 nor 1", good, [][]byte{{1, 2, 1, 0, 'a', 0, 0}}, false},
		{"255 for Del", good, [][]byte{{1, 255, 1, 0, 'a', 0, 0}}, false},
		{"a change without key", good, [][]byte{changeOf(put("", "1"))}, false},
		{"a change of a long key", good, [][]byte{changeOf(put(key64, "1"))}, true},
		{"a change of a longer key", good, [][]byte{changeOf(put(key65, "1"))}, false},
		{"a change that takes a longer key away", good, [][]byte{changeOf(del(key65))}, false},
		{"a change of a key of 257 bytes", good, [][]byte{changeOf(put(long(257), "1"))}, false},
		{"a change of a long value", good, [][]byte{changeOf(put("a", long(1024)))}, true},
		{"a change of a longer value", good, [][]byte{changeOf(put("a", long(1025)))}, false},
		{"a change that is cut", good, [][]byte{changeOf(put("c", "3"))[:7]}, false},
		{"a change and a byte", good, [][]byte{append(changeOf(put("c", "3")), 0)}, false},
		{"one byte of a change", good, [][]byte{{1}}, false},
		{"a change of the highest byte first", good, [][]byte{{1, 0, 0, 1, 'a', 0, 0}}, false},
		{"the last one is none", good, [][]byte{changeOf(put("c", "3")), changeOf(del("c"))[:5]}, false},
		{"the first one is none", good, [][]byte{changeOf(del("c"))[:5], changeOf(put("c", "3"))}, false},
	} {
		d := logged(t, 100, c.state, c.records...)
		d.Plan([]byte{1}) // so that an Open that writes is not ErrForm, and an Open that may be is not OK
		want := api.ErrForm
		if c.is {
			want = api.ErrIo
		}
		if s, e := store.Open(d); e != want || s != nil {
			t.Errorf("%s: %v, %d, not %d", c.name, s, e, want)
		}
		if e := d.Sync(); !c.is && e != api.ErrIo {
			t.Errorf("%s: something was written", c.name)
		}
		d.Plan(nil)
		if _, e := store.Open(d); c.is != (e == api.OK) {
			t.Errorf("%s: %d", c.name, e)
		}
	}
}

// P8.1: changes are done one behind the other, and each op behind those ahead of it.
func TestOpenDoesChanges(t *testing.T) {
	d := logged(t, 100, stateOf("a", "1", "b", "2", "d", "4"),
		changeOf(put("c", "3"), del("a"), put("b", "9")),
		changeOf(put("a", "5"), put("a", "6"), del("c"), put("e", "")),
		changeOf(del("d"), put("d", "7"), put("f", "8"), del("f"), del("nothing")))
	tells(t, opened(t, d), "a", "6", "b", "9", "d", "7", "e", "")
	lies(t, d, stateOf("a", "6", "b", "9", "d", "7", "e", ""))
}

// numbered are so many pairs by rising keys of two bytes, as a state.
func numbered(n int) []string {
	var l []string
	for i := range n {
		l = append(l, string([]byte{byte(i / 256), byte(i % 256)}), "")
	}
	return l
}

// P8.1: 4000 pairs may come of what is found, no more; what was ahead of them is not asked.
func TestPairsOfOpen(t *testing.T) {
	most := numbered(4000)
	last, more := most[2*3999], numbered(4001)[2*4000]
	tells(t, opened(t, logged(t, 4096, stateOf(most...))), most...)
	refused(t, logged(t, 4096, stateOf(numbered(4001)...)), api.ErrForm)
	refused(t, logged(t, 4096, stateOf(most...), changeOf(put(more, ""))), api.ErrForm)
	refused(t, logged(t, 4096, stateOf(most...), changeOf(put(more, "")), changeOf(put("zz", ""), del(more))), api.ErrForm)
	tells(t, opened(t, logged(t, 4096, stateOf(most...), changeOf(put(last, "")))), most...)
	tells(t, opened(t, logged(t, 4096, stateOf(most...), changeOf(put(more, "")), changeOf(del(more)))), most...)
	tells(t, opened(t, logged(t, 4096, stateOf(numbered(4001)...), changeOf(del(more)))), most...)
}

// P8.1: Most is half of a bank less 2048 bytes, rounded down, but never below 0.
func TestMost(t *testing.T) {
	for _, c := range []struct{ sectors, most int }{
		{6, 0}, {7, 0}, {20, 0}, {33, 0}, {34, 0}, {35, 0}, {36, 64}, {37, 64}, {60, 832}, {100, 2112}, {4095, 129920}, {4096, 129984},
	} {
		if s := opened(t, made(t, c.sectors)); s.Most() != c.most {
			t.Errorf("%d sectors: %d, not %d", c.sectors, s.Most(), c.most)
		}
	}
}

// P8.2: ops are done one behind the other, and changes too.
func TestChangesInOrder(t *testing.T) {
	s := opened(t, made(t, 100))
	commit(t, s, api.OK, put("a", "1"), put("a", "2"), put("b", "1"), del("b"), del("c"), put("c", "3"), del("none"))
	tells(t, s, "a", "2", "c", "3")
	all(t, s, api.OK, ops(del("a")), ops(put("a", "4"), put("d", "5")), ops(del("d"), put("c", "")))
	tells(t, s, "a", "4", "c", "")
	commit(t, s, api.OK, del("a"), del("c"))
	tells(t, s)
	commit(t, s, api.OK, del("a"))
	tells(t, s)
}

// P8.2: what may not be is ErrArg, even where there is no room for it, and nothing is done, nor written.
func TestErrArg(t *testing.T) {
	d := made(t, 100)
	s := opened(t, d)
	good := ops(put("b", "2"))
	commit(t, s, api.OK, put("a", "1"))
	d.Plan([]byte{1})
	for _, c := range []struct {
		name string
		l    [][]api.Op
	}{
		{"no changes", nil},
		{"17 changes", slices.Repeat(changes(good), 17)},
		{"1000 changes", slices.Repeat(changes(good), 1000)},
		{"no ops", changes(nil)},
		{"no ops at the end", changes(good, nil)},
		{"no ops ahead", changes(ops(), good)},
		{"33 ops", changes(slices.Repeat(good, 33))},
		{"33 ops that take away", changes(slices.Repeat(ops(del("b")), 33))},
		{"no key", changes(ops(put("", "1")))},
		{"no key to take away", changes(ops(del("")))},
		{"no key at the end", changes(good, ops(put("c", ""), put("", "")))},
		{"a key of 65 bytes", changes(ops(put(long(65), "1")))},
		{"a key of 65 bytes to take away", changes(ops(del(long(65))))},
		{"a value of 1025 bytes", changes(ops(put("b", long(1025))))},
		{"a value of 1025 bytes, taken away behind", changes(ops(put("b", long(1025)), del("b")))},
		{"a value of 70000 bytes", changes(ops(put("b", long(70000))))},
		{"a value, though Del", changes(ops(api.Op{Key: []byte("a"), Del: true, Value: []byte("1")}))},
		{"a value, though Del, at the end", changes(good, append(ops(good[0]), api.Op{Key: []byte("a"), Del: true, Value: []byte("1")}))},
		{"no room, and no key", changes(slices.Repeat(ops(put("b", long(1024))), 32), ops(put("", "")))},
	} {
		if e := s.All(c.l); e != api.ErrArg || s.Broken() {
			t.Errorf("%s: %d, broken: %t", c.name, e, s.Broken())
		}
		if len(c.l) == 1 {
			commit(t, s, api.ErrArg, c.l[0]...)
		}
	}
	if e := d.Sync(); e != api.ErrIo {
		t.Error("something was written")
	}
	tells(t, s, "a", "1")
	tells(t, opened(t, d), "a", "1")
}

// P8.2: 16 changes, 32 ops, keys of 64 and values of 1024 bytes may be; an empty value, if Del, is none.
func TestGreatestChanges(t *testing.T) {
	d := made(t, 4096)
	s := opened(t, d)
	commit(t, s, api.OK, put(long(64), long(1024)), put("a", ""))
	commit(t, s, api.OK, api.Op{Key: []byte("a"), Del: true, Value: []byte{}})
	tells(t, s, long(64), long(1024))
	commit(t, s, api.OK, del(long(64)))
	l := numbered(16 * 32)
	var list [][]api.Op
	for i := range 16 {
		var one []api.Op
		for j := range 32 {
			one = append(one, put(l[2*(32*i+j)], ""))
		}
		list = append(list, one)
	}
	all(t, s, api.OK, list...)
	tells(t, s, l...)
	tells(t, opened(t, d), l...)
}

// full fails if changes have room, or do anything; d is the store's disk.
func full(t *testing.T, d *disk.Disk, s *store.Store, l ...[]api.Op) {
	t.Helper()
	was := flat(s.Range(nil, math.MaxInt))
	d.Plan([]byte{1})
	all(t, s, api.ErrFull, l...)
	if e := d.Sync(); e != api.ErrIo || s.Broken() {
		t.Fatal("something was written")
	}
	tells(t, s, was...)
}

// P8.2: a state of just Most bytes may come of changes, one of a byte more not; what was on the way is not asked.
func TestFullByMost(t *testing.T) {
	d := made(t, 100) // a bank of 6272 bytes, a quarter of 1568, Most 2112
	s := opened(t, d)
	commit(t, s, api.OK, put("a", long(1024)))
	full(t, d, s, ops(put("b", long(1024)), put("c", long(2112-2*1029-5+1))))
	all(t, s, api.OK, ops(put("b", long(1024)), put("c", long(2112-2*1029-5))))
	if s.Size() != s.Most() {
		t.Fatalf("Size %d, Most %d", s.Size(), s.Most())
	}
	full(t, d, s, ops(put("d", "")))
	full(t, d, s, ops(put("c", long(2112-2*1029-5+1))))
	commit(t, s, api.OK, put("d", ""), del("d"))
	all(t, s, api.OK, ops(put("d", long(300))), ops(del("d")))
	all(t, s, api.OK, ops(put("d", "1"), put("c", long(2112-2*1029-5-6))))
	if s.Size() != s.Most() {
		t.Fatalf("Size %d, Most %d", s.Size(), s.Most())
	}
	commit(t, s, api.OK, del("a"))
	commit(t, s, api.OK, put("a", long(1024)))
	tells(t, opened(t, d), flat(s.Range(nil, 9))...)
}

// P8.2: where Most is 0, only changes of which nothing comes are done.
func TestNoMost(t *testing.T) {
	d := made(t, 6) // a bank of 256 bytes, a quarter of 64
	s := opened(t, d)
	full(t, d, s, ops(put("a", "")))
	commit(t, s, api.OK, del("a"))
	commit(t, s, api.OK, put("a", "1"), del("a"))
	full(t, d, s, ops(put("a", "1"), del("b")))
	// 1 and 6 and more bytes, and 24
	commit(t, s, api.OK, put("a", long(64-24-1-6-6)), del("a"))
	full(t, d, s, ops(put("a", long(64-24-1-6-6+1)), del("a")))
	tells(t, s)
}

// P8.2: 4000 pairs may come of changes, no more; what was on the way is not asked.
func TestFullByPairs(t *testing.T) {
	l := numbered(4000)
	d := logged(t, 4096, stateOf(l[:2*3990]...))
	s := opened(t, d)
	more := func(from, to int) []api.Op {
		var one []api.Op
		for i := from; i < to; i++ {
			one = append(one, put(numbered(to)[2*i], ""))
		}
		return one
	}
	full(t, d, s, more(3990, 4001))
	full(t, d, s, more(3990, 3995), more(3995, 4001))
	all(t, s, api.OK, more(3990, 4001), ops(del(l[0])))
	if s.Len() != 4000 {
		t.Fatalf("Len: %d", s.Len())
	}
	full(t, d, s, ops(put(l[0], "")))
	commit(t, s, api.OK, put(l[2], "new"))
	commit(t, s, api.OK, put(l[0], ""), del(numbered(4001)[2*4000]))
	commit(t, s, api.OK, put(l[2], ""))
	tells(t, s, l...)
	tells(t, opened(t, d), l...)
}

// P8.2: a change of 4096 bytes is done, one of a byte more not, wherever it stands.
func TestFullByChange(t *testing.T) {
	d := made(t, 4096)
	s := opened(t, d)
	sized := func(n int) []api.Op { // ops of n bytes in all, of three of the greatest values and another one
		l := ops(put("a", long(1024)), put("b", long(1024)), put("c", long(1024)))
		return append(l, put("d", long(n-1-3*1030-6)))
	}
	if n := len(changeOf(sized(4096)...)); n != 4096 {
		t.Fatal(n)
	}
	full(t, d, s, sized(4097))
	full(t, d, s, ops(put("e", "")), sized(4097))
	full(t, d, s, sized(4097), ops(put("e", "")))
	full(t, d, s, slices.Repeat(ops(put("e", long(1024))), 32))
	commit(t, s, api.OK, sized(4096)...)
	all(t, s, api.OK, sized(4096), sized(4095), sized(4096))
	tells(t, opened(t, d), "a", long(1024), "b", long(1024), "c", long(1024), "d", long(4096-1-3*1030-6))
}

// P8.2: pieces of just a quarter of a bank, rounded down, are written, those of a byte more not; each has 24 bytes beside its own.
func TestFullByQuarter(t *testing.T) {
	for _, c := range []struct{ sectors, quarter int }{{100, 1568}, {60, 928}, {44, 672}, {46, 704}} {
		d := made(t, c.sectors)
		s := opened(t, d)
		// one change: a put whose bytes are taken away again, so that Most is not met
		one := func(n int) []api.Op {
			var l []api.Op
			for n -= 1 + 24 + 6; n > 0; {
				k := min(n-6, 500)
				if n-6-k < 7 && n-6-k > 0 {
					k -= 7
				}
				l = append(l, put("a", long(k)))
				n -= 6 + k
			}
			return append(l, del("a"))
		}
		if n := len(changeOf(one(c.quarter)...)) + 24; n != c.quarter {
			t.Fatal(n, c.quarter)
		}
		full(t, d, s, one(c.quarter+1))
		commit(t, s, api.OK, one(c.quarter)...)
		// several, each with 24 bytes more: 31 for a del
		small := ops(del("a"))
		full(t, d, s, small, small, one(c.quarter-2*31+1))
		full(t, d, s, one(c.quarter-2*31+1), small, small)
		all(t, s, api.OK, small, one(c.quarter-2*31), small)
		tells(t, s)
	}
}

// P8.2: 16 changes, whose pieces have just a quarter of a bank, or a byte more.
func TestManyChanges(t *testing.T) {
	d := made(t, 36) // a bank of 2176 bytes, a quarter of 544
	s := opened(t, d)
	one := ops(del("abc")) // 9 and 24 bytes, 33 in all
	all(t, s, api.OK, slices.Repeat(changes(one), 16)...)
	all(t, s, api.OK, append(slices.Repeat(changes(one), 15), ops(del(long(3+544-528))))...)
	full(t, d, s, append(slices.Repeat(changes(one), 15), ops(del(long(3+544-528+1))))...)
}

// P8.2: a Checkpoint, of the state as it is ahead, goes ahead of changes that have more bytes, by 24 beside each, than there is room.
func TestCheckpointAhead(t *testing.T) {
	const size = 3712 // a bank of 60 sectors
	fill := func(left int) (*disk.Disk, *store.Store, []byte, [][]byte) {
		d := made(t, 60)
		s := opened(t, d)
		commit(t, s, api.OK, put("a", "1"), put("b", "2"))
		records := [][]byte{changeOf(put("a", "1"), put("b", "2"))}
		room := size - 5 - 5 - len(records[0])
		for room > left {
			n := min(room-left, 800)
			if rest := room - left - n; rest > 0 && rest < 100 {
				n -= 100
			}
			c := ops(put("c", long(n-5-7-6)), del("c")) // a piece of n bytes
			commit(t, s, api.OK, c...)
			records = append(records, changeOf(c...))
			room -= n
		}
		if room != left {
			t.Fatalf("%d bytes are left, not %d", room, left)
		}
		lies(t, d, nil, records...)
		return d, s, stateOf("a", "1", "b", "2"), records
	}
	one, two := ops(put("a", "9")), ops(del("b"), put("d", "4")) // 8 and 24, 14 and 24 bytes
	for left := 24 - 5; left < 130; left++ {                     // what fills it is reckoned with 24 bytes too, and takes 5
		for _, l := range [][][]api.Op{changes(one), changes(two), changes(one, two), changes(one, two, one)} {
			want := 0
			var behind [][]byte
			for _, c := range l {
				behind = append(behind, changeOf(c...))
				want += len(changeOf(c...)) + 24
			}
			d, s, state, records := fill(left)
			all(t, s, api.OK, l...)
			if want > left {
				lies(t, d, state, behind...)
			} else {
				lies(t, d, nil, append(records, behind...)...)
			}
		}
	}
}

// P8.2: through many changes the log never fills up, as a Checkpoint goes ahead whenever it must.
func TestManyCheckpoints(t *testing.T) {
	d := made(t, 60)
	s := opened(t, d)
	for i := range 500 {
		commit(t, s, api.OK, put("a", fmt.Sprint(i)), put("b", long(i)))
	}
	tells(t, s, "a", "499", "b", long(499))
	d.Crash(nil, -1, 0)
	tells(t, opened(t, d), "a", "499", "b", long(499))
}

// broken fails if a store is not, or answers anything but that, or what was.
func broken(t *testing.T, d *disk.Disk, s *store.Store, was ...string) {
	t.Helper()
	if !s.Broken() {
		t.Fatal("it is not broken")
	}
	if !d.Off() {
		d.Plan([]byte{1})
	}
	most := s.Most()
	commit(t, s, api.ErrBroken, put("c", "3"))
	commit(t, s, api.ErrBroken, del("a"))
	commit(t, s, api.ErrBroken)
	commit(t, s, api.ErrBroken, put("", ""))
	commit(t, s, api.ErrBroken, put("c", long(1024)), put("d", long(1024)), put("e", long(1024)), put("f", long(1024)))
	all(t, s, api.ErrBroken)
	all(t, s, api.ErrBroken, slices.Repeat(changes(ops(del("a"))), 17)...)
	if !d.Off() {
		if e := d.Sync(); e != api.ErrIo {
			t.Fatal("something was written")
		}
	}
	tells(t, s, was...)
	lacks(t, s, "c")
	if !s.Broken() || s.Most() != most {
		t.Fatal("it is not as it was")
	}
}

// P8.2, P8.3: an error of the disk, at each change of it, breaks the store, which tells what was; behind a crash that is there.
func TestBroken(t *testing.T) {
	for i := range 4 { // one sector, a Sync, a head, a Sync
		for bad, want := range map[byte]api.Errno{1: api.ErrIo, 2: api.ErrOff} {
			for _, l := range [][][]api.Op{changes(ops(put("c", "3"))), changes(ops(del("a")), ops(put("b", "9")), ops(put("c", "3")))} {
				d := made(t, 60)
				s := opened(t, d)
				commit(t, s, api.OK, put("a", "1"), put("b", "2"))
				d.Plan(append(make([]byte, i), bad))
				all(t, s, want, l...)
				broken(t, d, s, "a", "1", "b", "2")
				d.Crash(nil, -1, 0)
				commit(t, s, api.ErrBroken, put("c", "3"))
				tells(t, opened(t, d), "a", "1", "b", "2")
			}
		}
	}
}

// P8.2: an error of the Checkpoint ahead breaks the store likewise.
func TestBrokenByCheckpoint(t *testing.T) {
	for i := range 4 {
		for bad, want := range map[byte]api.Errno{1: api.ErrIo, 2: api.ErrOff} {
			d := made(t, 60)
			s := opened(t, d)
			commit(t, s, api.OK, put("a", "1"), put("b", "2"))
			for range 4 {
				commit(t, s, api.OK, put("z", long(800)), del("z"))
			}
			d.Plan(append(make([]byte, i), bad))
			commit(t, s, want, put("z", long(800)), del("a"), put("c", "3"), del("z"))
			broken(t, d, s, "a", "1", "b", "2")
			d.Crash(nil, -1, 0)
			lies(t, d, nil, append([][]byte{changeOf(put("a", "1"), put("b", "2"))}, slices.Repeat([][]byte{changeOf(put("z", long(800)), del("z"))}, 4)...)...)
			tells(t, opened(t, d), "a", "1", "b", "2")
		}
	}
}

// P8.2: an error of the log that is none of the disk breaks the store too: the last number, the last generation, and no room behind a state that was too great when it was found.
func TestBrokenByLog(t *testing.T) {
	state := stateOf("a", "1", "b", "2")
	d := headed(t, 60, maxNumber-1, 1, state)
	s := opened(t, d)
	commit(t, s, api.ErrFull, put("c", "3"))
	broken(t, d, s, "a", "1", "b", "2")

	d = headed(t, 60, maxNumber-2, 1, state)
	s = opened(t, d)
	commit(t, s, api.OK, del("b"))
	commit(t, s, api.ErrFull, put("c", "3"))
	broken(t, d, s, "a", "1")

	d = headed(t, 60, 1, maxGeneration-1, state)
	s = opened(t, d)
	for range 4 {
		commit(t, s, api.OK, put("z", long(800)), del("z"))
	}
	commit(t, s, api.ErrFull, put("z", long(800)), del("z"))
	broken(t, d, s, "a", "1", "b", "2")

	was := []string{"a", long(1024), "b", long(1024), "d", long(1024), "e", long(500)}
	d = logged(t, 60, stateOf(was...))
	s = opened(t, d)
	if s.Size() <= s.Most() {
		t.Fatalf("Size %d, Most %d", s.Size(), s.Most())
	}
	away := ops(del("a"), del("b"), del("d"), del("e"))
	commit(t, s, api.ErrFull, del("a")) // too much is left
	if s.Broken() {
		t.Fatal("it is broken")
	}
	all(t, s, api.ErrFull, away, ops(del(long(64))), ops(del(long(64))))
	broken(t, d, s, was...)
	d.Crash(nil, -1, 0)
	s = opened(t, d)
	tells(t, s, was...)
	commit(t, s, api.OK, away...)
	tells(t, s)
}

// P8.3: a key's value, also where that is empty, and none.
func TestGet(t *testing.T) {
	s := opened(t, made(t, 60))
	commit(t, s, api.OK, put("a", ""), put("ab", "2"), put("\x00", "3"))
	for _, c := range []struct {
		key, value string
		is         bool
	}{
		{"a", "", true}, {"ab", "2", true}, {"\x00", "3", true},
		{"", "", false}, {"b", "", false}, {"abc", "", false}, {"A", "", false}, {"\x00\x00", "", false}, {long(65), "", false}, {long(100000), "", false},
	} {
		if v, is := s.Get([]byte(c.key)); string(v) != c.value || is != c.is {
			t.Errorf("Get(%.9q): %q, %t", c.key, v, is)
		}
	}
	if v, is := s.Get(nil); len(v) != 0 || is {
		t.Errorf("Get of nothing: %q, %t", v, is)
	}
}

// P8.3: the pairs whose keys begin so, byte by byte, a beginning first, and so many at most.
func TestRange(t *testing.T) {
	s := opened(t, made(t, 100))
	commit(t, s, api.OK, put("b", "1"), put("\xff", "2"), put("ab", "3"), put("a", "4"), put("\x80", "5"), put("aa", "6"), put("ac", "7"), put("\x00", "8"), put("a\x00", "9"), put("\xff\xff", "10"), put("B", "11"))
	order := []string{"\x00", "8", "B", "11", "a", "4", "a\x00", "9", "aa", "6", "ab", "3", "ac", "7", "b", "1", "\x80", "5", "\xff", "2", "\xff\xff", "10"}
	for most := -3; most < 15; most++ {
		want := order[:2*min(11, max(most, 0))]
		if got := flat(s.Range(nil, most)); !slices.Equal(got, want) {
			t.Errorf("Range(%d): %q, not %q", most, got, want)
		}
		want = order[4 : 4+2*min(5, max(most, 0))]
		if got := flat(s.Range([]byte("a"), most)); !slices.Equal(got, want) {
			t.Errorf("Range(a, %d): %q, not %q", most, got, want)
		}
	}
	for _, c := range []struct {
		begin string
		most  int
		want  []string
	}{
		{"", math.MaxInt, order},
		{"", math.MinInt, nil},
		{"a", math.MinInt, nil},
		{"ab", 9, []string{"ab", "3"}},
		{"abc", 9, nil},
		{"\xff", math.MaxInt, order[18:]},
		{"\xff\xff", 1, order[20:]},
		{"\xff\xff\xff", 1, nil},
		{"c", 9, nil},
		{"a\x00", 9, []string{"a\x00", "9"}},
		{long(65), 9, nil},
		{long(100000), 9, nil},
	} {
		if got := flat(s.Range([]byte(c.begin), c.most)); !slices.Equal(got, c.want) {
			t.Errorf("Range(%.9q, %d): %q, not %q", c.begin, c.most, got, c.want)
		}
	}
	if got := opened(t, made(t, 6)).Range(nil, 9); len(got) != 0 {
		t.Errorf("of nothing: %q", got)
	}
}

// R3: what is handed in stays as it is, and is shared with nothing; what is told is the caller's own.
func TestNothingIsShared(t *testing.T) {
	d := made(t, 60)
	s := opened(t, d)
	key, value, other := []byte("key"), []byte("value"), []byte("other")
	l := changes(ops(api.Op{Key: key, Value: value}), ops(api.Op{Key: other, Value: value}))
	all(t, s, api.OK, l...)
	if string(key) != "key" || string(value) != "value" || string(other) != "other" || l[0][0].Del || len(l[1]) != 1 {
		t.Fatal("what was handed in was changed")
	}
	clear(key)
	clear(value)
	clear(other)
	clear(l[0])
	want := []string{"key", "value", "other", "value"}
	tells(t, s, want...)
	v, _ := s.Get([]byte("key"))
	clear(v[:cap(v)])
	tells(t, s, want...)
	got := s.Range(nil, 9)
	for _, p := range got {
		clear(p.Key[:cap(p.Key)])
	}
	if string(got[0].Value) != "value" || string(got[1].Value) != "value" {
		t.Fatalf("a key and a value share: %q", got)
	}
	for _, p := range got {
		clear(p.Value[:cap(p.Value)])
	}
	tells(t, s, want...)
	tells(t, opened(t, d), want...)
	begin := []byte("k")
	s.Range(begin, 1)
	if string(begin) != "k" {
		t.Fatal("what was handed in was changed")
	}
}

// R4: two stores share nothing, and the same changes leave the same bytes.
func TestStoresAreAlone(t *testing.T) {
	d, g := made(t, 60), made(t, 60)
	a, b := opened(t, d), opened(t, g)
	commit(t, a, api.OK, put("a", "1"))
	tells(t, b)
	for i := range 40 {
		commit(t, a, api.OK, put(fmt.Sprint(i), "1"))
	}
	commit(t, b, api.OK, put("a", "1"))
	for i := range 40 {
		commit(t, b, api.OK, put(fmt.Sprint(i), "1"))
	}
	opened(t, d)
	opened(t, g)
	for k := range 60 {
		x, _ := d.Read(k)
		y, _ := g.Read(k)
		if !bytes.Equal(x, y) {
			t.Fatalf("the sector %d is %x, and %x", k, x, y)
		}
	}
}

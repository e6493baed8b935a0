package store_test

import (
	"bytes"
	"math"
	"math/rand"
	"slices"
	"strings"
	"testing"

	"pennant/api"
	"pennant/disk"
	"pennant/store"
	"pennant/wal"
)

// rows are pairs in order, each a key and a value: a second telling of what a store holds.
type rows [][2]string

// with is what comes of an op, found row by row.
func (r rows) with(op api.Op) rows {
	key := string(op.Key)
	var out rows
	for _, row := range r {
		if row[0] < key {
			out = append(out, row)
		}
	}
	if !op.Del {
		out = append(out, [2]string{key, string(op.Value)})
	}
	for _, row := range r {
		if row[0] > key {
			out = append(out, row)
		}
	}
	return out
}

func (r rows) behind(l [][]api.Op) rows {
	for _, c := range l {
		for _, op := range c {
			r = r.with(op)
		}
	}
	return r
}

func (r rows) flat() []string {
	var l []string
	for _, row := range r {
		l = append(l, row[0], row[1])
	}
	return l
}

func (r rows) bytes() []byte { return stateOf(r.flat()...) }

// slow is a second store, told by rows, on a log of its own; of the disk nothing but its own changes is there.
type slow struct {
	d      *disk.Disk
	log    *wal.Log
	rows   rows
	broken bool
}

// open is a slow store of rows that are known to lie there.
func (s *slow) open(r rows) api.Errno {
	log, _, _, e := wal.Open(s.d)
	if e != api.OK {
		return e
	}
	s.log, s.rows, s.broken = log, r, false
	return log.Checkpoint(r.bytes())
}

// right tells whether changes may be.
func right(l [][]api.Op) bool {
	for _, c := range l {
		for _, op := range c {
			if len(op.Key) == 0 || len(op.Key) > 64 || len(op.Value) > 1024 || op.Del && len(op.Value) != 0 {
				return false
			}
		}
		if len(c) == 0 || len(c) > 32 {
			return false
		}
	}
	return len(l) != 0 && len(l) <= 16
}

func (s *slow) all(l [][]api.Op) api.Errno {
	if s.broken {
		return api.ErrBroken
	}
	if !right(l) {
		return api.ErrArg
	}
	next := s.rows.behind(l)
	need, longest := 0, 0
	for _, c := range l {
		n := len(changeOf(c...))
		need += n + 24
		longest = max(longest, n)
	}
	if size := s.log.Size(); 2*len(next.bytes()) > max(size-2048, 0) || len(next) > 4000 || longest > 4096 || 4*need > size {
		return api.ErrFull
	}
	s.broken = true
	if need > s.log.Room() {
		if e := s.log.Checkpoint(s.rows.bytes()); e != api.OK {
			return e
		}
	}
	for _, c := range l {
		if e := s.log.Append(changeOf(c...)); e != api.OK {
			return e
		}
	}
	if e := s.log.Commit(); e != api.OK {
		return e
	}
	s.rows, s.broken = next, false
	return api.OK
}

// both is a store and a slow one, each on a disk of its own.
type both struct {
	d *disk.Disk
	s *store.Store
	m *slow
}

// begin is both, on empty disks.
func begin(t testing.TB, sectors int) *both {
	t.Helper()
	x := &both{d: made(t, sectors), m: &slow{d: made(t, sectors)}}
	x.open(t, nil)
	return x
}

// open opens both again, where those rows lie.
func (x *both) open(t testing.TB, r rows) {
	t.Helper()
	if e := x.m.open(r); e != api.OK {
		t.Fatalf("Checkpoint: %d", e)
	}
	x.s = opened(t, x.d)
	x.alike(t)
}

func (x *both) plan(b []byte) {
	x.d.Plan(b)
	x.m.d.Plan(b)
}

func (x *both) crash(stay []bool, torn, cut int) {
	x.d.Crash(stay, torn, cut)
	x.m.d.Crash(stay, torn, cut)
}

func (x *both) all(t testing.TB, l [][]api.Op) api.Errno {
	t.Helper()
	want := x.m.all(l)
	if e := x.s.All(l); e != want {
		t.Fatalf("All(%v): %d, not %d", l, e, want)
	}
	x.alike(t)
	return want
}

// alike fails if both part, in what they tell, or in their disks.
func (x *both) alike(t testing.TB) {
	t.Helper()
	tells(t, x.s, x.m.rows.flat()...)
	if x.s.Broken() != x.m.broken || x.d.Off() != x.m.d.Off() || !slices.Equal(x.d.Dirty(), x.m.d.Dirty()) {
		t.Fatalf("broken: %t, not %t; off: %t, not %t; dirty %d, not %d", x.s.Broken(), x.m.broken, x.d.Off(), x.m.d.Off(), x.d.Dirty(), x.m.d.Dirty())
	}
	for k := range x.d.Len() {
		a, _ := x.d.Read(k)
		b, _ := x.m.d.Read(k)
		if !bytes.Equal(a, b) {
			t.Fatalf("the sector %d is %x, not %x", k, a, b)
		}
	}
}

// ranges fails if a Range is not that of the rows.
func (x *both) ranges(t testing.TB, begin string, most int) {
	t.Helper()
	var want []string
	for _, row := range x.m.rows {
		if strings.HasPrefix(row[0], begin) && len(want)/2 < most {
			want = append(want, row[0], row[1])
		}
	}
	if got := flat(x.s.Range([]byte(begin), most)); !slices.Equal(got, want) {
		t.Fatalf("Range(%q, %d): %q, not %q", begin, most, got, want)
	}
}

// chanceKey is one of few, many of them beginnings of others.
func chanceKey(r *rand.Rand) string {
	b := make([]byte, 1+r.Intn(3))
	for i := range b {
		b[i] = "\x00ab\xff"[r.Intn(4)]
	}
	if r.Intn(20) == 0 {
		return string(b) + long(r.Intn(63))
	}
	return string(b)
}

func chanceOp(r *rand.Rand, most int) api.Op {
	switch r.Intn(200) {
	case 0:
		return put("", "")
	case 1:
		return put("a", long(1025))
	case 2:
		return api.Op{Key: []byte("a"), Value: []byte("b"), Del: true}
	}
	if r.Intn(3) == 0 {
		return del(chanceKey(r))
	}
	value := make([]byte, r.Intn(1+r.Intn(most)))
	r.Read(value)
	return put(chanceKey(r), string(value))
}

// chanceChanges are some, most of which may be.
func chanceChanges(r *rand.Rand, most int) [][]api.Op {
	n := 1
	if r.Intn(3) == 0 {
		n = r.Intn(18)
	}
	l := make([][]api.Op, n)
	for i := range l {
		k := 1 + r.Intn(4)
		if r.Intn(40) == 0 {
			k = r.Intn(34)
		}
		for range k {
			l[i] = append(l[i], chanceOp(r, most))
		}
	}
	return l
}

// some is a crash by chance.
func (x *both) some(r *rand.Rand) {
	n := len(x.d.Dirty())
	stay := make([]bool, r.Intn(n+2))
	for i := range stay {
		stay[i] = r.Intn(2) == 0
	}
	x.crash(stay, r.Intn(n+2)-1, r.Intn(sectorSize+1))
}

// P8.1 to P8.4: whatever is done, a store tells what the slow one does, its disk is alike, sector by sector, and behind each crash there is what was OK, or that and the change that failed.
func TestStoresByChance(t *testing.T) {
	r := source(81)
	for range 60 {
		x := begin(t, []int{6, 20, 36, 40, 60, 100}[r.Intn(6)])
		most := 1 + x.m.log.Size()/20
		for range 15 {
			var last [][]api.Op // that failed
			if r.Intn(3) > 0 {
				plan := make([]byte, 1+r.Intn(60))
				plan[len(plan)-1] = byte(r.Intn(4))
				x.plan(plan)
			}
			for range r.Intn(30) {
				l := chanceChanges(r, most)
				wasBroken := x.s.Broken()
				x.all(t, l)
				if !wasBroken && x.s.Broken() {
					last = l
				}
				x.ranges(t, chanceKey(r), r.Intn(6)-1)
			}
			x.some(r)
			x.openEither(t, last)
		}
	}
}

// openEither opens both behind a crash, where either what was OK lies, or what comes of the changes that failed too.
func (x *both) openEither(t testing.TB, last [][]api.Op) {
	t.Helper()
	next := x.m.rows.behind(last)
	// What lies there is asked of a copy of the disk, as Open writes.
	got := flat(opened(t, copyOf(t, x.d)).Range(nil, math.MaxInt))
	switch {
	case slices.Equal(got, x.m.rows.flat()):
		x.open(t, x.m.rows)
	case slices.Equal(got, next.flat()):
		x.open(t, next)
	default:
		t.Fatalf("%q is there, neither %q nor %q", got, x.m.rows, next)
	}
}

// copyOf is a disk with the same sectors, synced.
func copyOf(t testing.TB, d *disk.Disk) *disk.Disk {
	t.Helper()
	c := made(t, d.Len())
	for k := range d.Len() {
		b, e := d.Read(k)
		if e != api.OK || c.Write(k, b) != api.OK {
			t.Fatalf("Read(%d): %d", k, e)
		}
	}
	if e := c.Sync(); e != api.OK {
		t.Fatalf("Sync: %d", e)
	}
	return c
}

// script is a row of changes through which a log of 40 sectors (a bank of 2432 bytes, Most 192) needs Checkpoints.
func script() [][][]api.Op {
	return [][][]api.Op{
		changes(ops(put("a", "1"), put("b", "2"))),
		changes(ops(put("c", long(90)), del("a")), ops(put("a", "3"))),
		changes(ops(put("z", long(500)), del("z"))),
		changes(ops(put("b", long(20))), ops(put("z", long(400)), del("z")), ops(del("c"), put("d", "4"))),
		changes(ops(put("z", long(500)), del("z"), put("e", "5"))),
		changes(ops(put("z", long(400)), del("z"), del("e"), put("c", "6")), ops(del("a"))),
		changes(ops(put("z", long(500)), del("z"), put("f", "7"))),
		changes(ops(put("a", "8"), put("b", "9")), ops(del("f"), del("c"))),
	}
}

// runScript does a script up to the first error; it tells how many of its changes were OK.
func runScript(s *store.Store) int {
	for i, l := range script() {
		if s.All(l) != api.OK {
			return i
		}
	}
	return len(script())
}

// P8.4: the power goes at each change of the disk, or is refused there, and whatever stays, and is torn: opened again, there is what was OK, or that and the change that failed, and no other.
func TestEachCrash(t *testing.T) {
	var states []rows // ahead of each of the script's, and behind the last
	states = append(states, nil)
	for _, l := range script() {
		states = append(states, states[len(states)-1].behind(l))
	}
	checkpoints := 0
	for i := 0; ; i++ {
		prepare := func(bad byte) (*disk.Disk, *store.Store) {
			d := made(t, 40)
			s := opened(t, d)
			d.Plan(append(make([]byte, i), bad))
			return d, s
		}
		d, s := prepare(2)
		done := runScript(s)
		if done == len(script()) {
			if d.Off() {
				t.Fatal("the power is off, and all was OK")
			}
			tells(t, s, states[done].flat()...)
			break
		}
		tells(t, s, states[done].flat()...)
		n := len(d.Dirty())
		if n > 1 && d.Dirty()[0] >= 2 {
			checkpoints++
		}
		for choice := range 1 << min(n, 5) {
			stay := make([]bool, n)
			for j := range stay {
				stay[j] = choice>>(j%5)&1 == 1
			}
			for torn := -1; torn < n; torn++ {
				for _, cut := range []int{0, 1, 12, 13, 21, 24, 64, 127} {
					d, s := prepare(1 + byte(choice&1))
					if runScript(s) != done {
						t.Fatal("not the same")
					}
					d.Crash(stay, torn, cut)
					s = opened(t, d)
					got := flat(s.Range(nil, math.MaxInt))
					if !slices.Equal(got, states[done].flat()) && !slices.Equal(got, states[done+1].flat()) {
						t.Fatalf("change %d, %t stays, %d is torn at %d: %q, neither %q nor %q", i, stay, torn, cut, got, states[done], states[done+1])
					}
					if torn < 0 && cut > 0 {
						break
					}
				}
			}
		}
	}
	if checkpoints < 10 {
		t.Fatalf("%d", checkpoints)
	}
}

// P8.4: the power goes in the middle of Open, again and again: nothing is lost.
func TestCrashesOfOpen(t *testing.T) {
	r := source(82)
	want := []string{"a", long(100), "b", long(60)}
	for range 200 {
		d := logged(t, 40, stateOf("a", "1", "b", long(60)), changeOf(put("a", long(100))))
		for range 5 {
			d.Plan(append(make([]byte, r.Intn(6)), 1+byte(r.Intn(2))))
			if s, e := store.Open(d); e != api.OK && s != nil {
				t.Fatalf("%v, %d", s, e)
			}
			d.Crash([]bool{r.Intn(2) == 0, r.Intn(2) == 0}, r.Intn(4)-1, r.Intn(sectorSize+1))
		}
		tells(t, opened(t, d), want...)
	}
}

// P1, P8.1: whatever state and record lie there, Open ends; what it takes is told again as it was.
func FuzzOpen(f *testing.F) {
	f.Add(stateOf("a", "1", "b", "2"), changeOf(put("c", "3"), del("a")))
	f.Add(stateOf("a", "1", "a", "2"), changeOf(put("", "3")))
	f.Add(stateOf("a"), []byte{33})
	f.Add([]byte{1, 0, 'a', 0}, []byte{1, 2, 1, 0, 'a', 0, 0})
	f.Fuzz(func(t *testing.T, state, record []byte) {
		state, record = state[:min(len(state), 2000)], record[:min(len(record), 2000)]
		s, e := store.Open(logged(t, 100, state))
		if e == api.OK {
			if l := flat(s.Range(nil, math.MaxInt)); !bytes.Equal(stateOf(l...), state) || s.Size() != len(state) {
				t.Fatalf("%x is told as %q", state, l)
			}
		} else if e != api.ErrForm || s != nil {
			t.Fatalf("%v, %d", s, e)
		}
		d := logged(t, 100, nil, record)
		if s, e = store.Open(d); e != api.OK && (e != api.ErrForm || s != nil) {
			t.Fatalf("%v, %d", s, e)
		}
	})
}

// FuzzStore: what is done is told by bytes, by two each.
func FuzzStore(f *testing.F) {
	f.Add([]byte{0, 7, 1, 3, 2, 0, 3, 20, 0, 9, 0, 200, 4, 7})
	f.Add([]byte{0, 200, 0, 201, 0, 202, 0, 203, 0, 204, 0, 205, 3, 3, 0, 206, 4, 255})
	f.Add([]byte{2, 31, 2, 15, 1, 1, 2, 255, 3, 130, 0, 100, 0, 100, 4, 8})
	f.Fuzz(func(t *testing.T, script []byte) {
		x := begin(t, 50)
		var last [][]api.Op
		for ; len(script) >= 2; script = script[2:] {
			n := int(script[1])
			key := string(rune('a' + n%7))
			l := changes(ops(put(key, long(n))))
			switch script[0] % 5 {
			case 1:
				l = changes(ops(del(key)))
			case 2:
				l = slices.Repeat(changes(ops(put(key, long(n%30)), del("b"))), n%18)
			case 3:
				x.plan(append(make([]byte, n%20), byte(n/20%3)))
				continue
			case 4:
				x.crash([]bool{n&1 > 0, n&2 > 0, n&4 > 0}, n>>3%5-1, n>>1)
				x.openEither(t, last)
				last = nil
				continue
			}
			if was := x.s.Broken(); x.all(t, l) != api.OK && !was && x.s.Broken() {
				last = l
			}
			x.ranges(t, key, n%4)
		}
	})
}

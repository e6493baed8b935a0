package wal_test

import (
	"bytes"
	"math/rand"
	"regexp"
	"slices"
	"testing"

	"pennant/api"
	"pennant/disk"
	"pennant/wal"
)

func same(t testing.TB, a, b [][]byte) {
	t.Helper()
	if len(a) != len(b) {
		t.Fatalf("%d sectors, not %d", len(a), len(b))
	}
	for k := range a {
		if !bytes.Equal(a[k], b[k]) {
			t.Fatalf("sector %d is %x, not %x", k, a[k], b[k])
		}
	}
}

// change is one of a disk: what a sector is, or, if there is none below 0, a Sync.
type change struct {
	k int
	b []byte
}

func (c change) do(d *disk.Disk) api.Errno {
	if c.k < 0 {
		return d.Sync()
	}
	return d.Write(c.k, c.b)
}

// left is a state and the records behind it.
type left struct {
	state   []byte
	records [][]byte
}

// pieces are those of what is left, and of records behind it.
func (l left) pieces(more ...[]byte) []byte {
	var b []byte
	for i := 0; i == 0 || i < len(l.state); i += 1024 {
		kind := byte(1)
		if i+1024 >= len(l.state) {
			kind = 2
		}
		b = join(b, piece(kind, l.state[i:min(i+1024, len(l.state))]))
	}
	for _, r := range append(slices.Clone(l.records), more...) {
		b = join(b, piece(3, r))
	}
	return b
}

func (l left) is(o left) bool {
	return bytes.Equal(l.state, o.state) && slices.EqualFunc(l.records, o.records, bytes.Equal)
}

// slow is a second log, told by whole lists, with a disk of its own.
type slow struct {
	d                  *disk.Disk
	half               int
	number, generation int
	left
	waits         [][]byte
	begun, broken bool
}

// slowLog is one of a disk, found by what the chapter says of all its bytes.
func slowLog(t testing.TB, d *disk.Disk) *slow {
	t.Helper()
	s := &slow{d: d, half: half(d.Len())}
	l := sectors(t, d)
	length := 0
	for k := range 2 {
		read := func(i int) int {
			b := l[k][4*i:]
			return int(b[0]) + int(b[1])*256 + int(b[2])*65536 + int(b[3])*16777216
		}
		n, g, m := read(0), read(1), read(2)
		alike := n == read(3) && g == read(4) && m == read(5)
		may := n >= 1 && n <= maxNumber && g >= 1 && g <= maxGeneration && m <= s.size()
		if alike && may && n%2 == k && n > s.number {
			s.number, s.generation, length = n, g, m
		}
	}
	s.find(join(l[s.bank(s.generation) : s.bank(s.generation)+s.half]...)[:length])
	return s
}

var follow = regexp.MustCompile("^1*23*")

// find is what bytes tell: first all that is whole, then the part of it whose kinds follow.
func (s *slow) find(b []byte) {
	kinds := ""
	var parts [][]byte
	for len(b) >= 5 {
		n := int(b[1]) + int(b[2])*256 + int(b[3])*65536 + int(b[4])*16777216
		if n > longest || 5+n > len(b) {
			break
		}
		if b[0] >= 1 && b[0] <= 3 {
			kinds += string('0' + rune(b[0]))
		} else {
			kinds += "x"
		}
		parts = append(parts, b[5:5+n])
		b = b[5+n:]
	}
	for i, kind := range follow.FindString(kinds) {
		if kind == '3' {
			s.records = append(s.records, parts[i])
		} else {
			s.state = join(s.state, parts[i])
		}
	}
}

func (s *slow) size() int { return s.half * sectorSize }

func (s *slow) bank(generation int) int { return 2 + generation%2*s.half }

// changes are those by which b, from its i-th sector on, is in a generation's bank, and counts.
func (s *slow) changes(generation, i int, b []byte) []change {
	var l []change
	for ; i*sectorSize < len(b); i++ {
		l = append(l, change{s.bank(generation) + i, b[i*sectorSize : min((i+1)*sectorSize, len(b))]})
	}
	return append(l, change{k: -1}, change{(s.number + 1) % 2, headOf(s.number+1, generation, len(b))}, change{k: -1})
}

// do makes changes up to the first error; none of them is OK.
func (s *slow) do(l []change) api.Errno {
	for _, c := range l {
		if e := c.do(s.d); e != api.OK {
			s.broken = true
			return e
		}
	}
	s.number++
	return api.OK
}

func (s *slow) checkpoint(state []byte) api.Errno {
	next := left{state: bytes.Clone(state)}
	switch b := next.pieces(); {
	case s.broken:
		return api.ErrBroken
	case len(b) > s.size() || s.generation == maxGeneration || s.number == maxNumber:
		return api.ErrFull
	default:
		if e := s.do(s.changes(s.generation+1, 0, b)); e != api.OK {
			return e
		}
	}
	s.left, s.waits, s.begun = next, nil, true
	s.generation++
	return api.OK
}

func (s *slow) append(b []byte) api.Errno {
	switch {
	case s.broken:
		return api.ErrBroken
	case !s.begun:
		return api.ErrOrder
	case len(b) > longest:
		return api.ErrArg
	case len(s.pieces(append(slices.Clone(s.waits), b)...)) > s.size():
		return api.ErrFull
	}
	s.waits = append(s.waits, bytes.Clone(b))
	return api.OK
}

func (s *slow) commit() api.Errno {
	switch {
	case s.broken:
		return api.ErrBroken
	case !s.begun:
		return api.ErrOrder
	case len(s.waits) == 0:
		return api.OK
	case s.number == maxNumber:
		return api.ErrFull
	}
	if e := s.do(s.changes(s.generation, len(s.pieces())/sectorSize, s.pieces(s.waits...))); e != api.OK {
		return e
	}
	s.records, s.waits = append(s.records, s.waits...), nil
	return api.OK
}

func (s *slow) room() int {
	if s.broken || !s.begun {
		return 0
	}
	return s.size() - len(s.pieces(s.waits...))
}

// alike fails if a log and its disk part from a slow one and its own.
func alike(t testing.TB, l *wal.Log, d *disk.Disk, s *slow) {
	t.Helper()
	is(t, l, s.room(), s.broken)
	if l.Size() != s.size() || d.Off() != s.d.Off() || !slices.Equal(d.Dirty(), s.d.Dirty()) {
		t.Fatalf("Size %d, not %d; off: %t, not %t; dirty %d, not %d", l.Size(), s.size(), d.Off(), s.d.Off(), d.Dirty(), s.d.Dirty())
	}
	if !d.Off() {
		same(t, sectors(t, d), sectors(t, s.d))
	}
}

// both is a log and a slow one, each on a disk of its own.
type both struct {
	d *disk.Disk
	l *wal.Log
	s *slow
}

// begin is both, on empty disks.
func begin(t testing.TB, n int) *both {
	t.Helper()
	x := &both{d: made(t, n), s: &slow{d: made(t, n)}}
	x.open(t)
	return x
}

// open opens both again; they must tell the same.
func (x *both) open(t testing.TB) {
	t.Helper()
	x.s = slowLog(t, x.s.d)
	tells(t, x.d, x.s.state, x.s.records...)
	x.l = opened(t, x.d)
	alike(t, x.l, x.d, x.s)
}

func (x *both) plan(b []byte) {
	x.d.Plan(b)
	x.s.d.Plan(b)
}

func (x *both) crash(stay []bool, torn, cut int) {
	x.d.Crash(stay, torn, cut)
	x.s.d.Crash(stay, torn, cut)
}

func (x *both) checkpoint(t testing.TB, state []byte) api.Errno {
	t.Helper()
	want := x.s.checkpoint(state)
	checkpoint(t, x.l, state, want)
	alike(t, x.l, x.d, x.s)
	return want
}

func (x *both) append(t testing.TB, b []byte) api.Errno {
	t.Helper()
	want := x.s.append(b)
	appendTo(t, x.l, b, want)
	alike(t, x.l, x.d, x.s)
	return want
}

func (x *both) commit(t testing.TB) api.Errno {
	t.Helper()
	want := x.s.commit()
	commit(t, x.l, want)
	alike(t, x.l, x.d, x.s)
	return want
}

// some is a crash by chance.
func (x *both) some(r *rand.Rand) {
	n := len(x.d.Dirty())
	stay := make([]bool, r.Intn(n+2))
	for i := range stay {
		stay[i] = r.Intn(2) == 0
	}
	cut := r.Intn(sectorSize + 1)
	if r.Intn(2) == 0 {
		cut = r.Intn(26)
	}
	x.crash(stay, r.Intn(n+2)-1, cut)
}

// trouble is a plan by chance, in which a change may be refused, or meet the power's end.
func (x *both) trouble(r *rand.Rand) {
	b := make([]byte, 1+r.Intn(12))
	b[len(b)-1] = byte(r.Intn(4))
	x.plan(b)
}

// chance does something to both.
func (x *both) chance(t testing.TB, r *rand.Rand) {
	t.Helper()
	switch r.Intn(20) {
	case 0:
		x.trouble(r)
	case 1:
		x.some(r)
		x.open(t)
	case 2:
		if !x.d.Off() {
			x.open(t)
		}
	case 3, 4, 5, 6:
		x.checkpoint(t, text(r, r.Intn(x.s.size()*9/8)))
	case 7, 8, 9, 10, 11:
		x.commit(t)
	default:
		x.append(t, text(r, r.Intn(1+r.Intn(300))))
	}
}

// P7.1 to P7.3: a log is, whatever is done to it, as the chapter tells it, and so is each sector of its disk, also when it is opened again with no crash ahead.
func TestLogsByChance(t *testing.T) {
	r := source(72)
	for range 150 {
		x := begin(t, []int{6, 7, 8, 10, 13, 30, 60}[r.Intn(7)])
		for range 60 {
			x.chance(t, r)
		}
	}
}

// deed is something that changes a disk, with what it has behind it.
type deed struct {
	name string
	with func(t testing.TB, x *both)
	do   func(t testing.TB, x *both) api.Errno
}

// deeds are Checkpoints and Commits whose pieces end at, ahead of and behind the ends of sectors.
func deeds() []deed {
	r := source(73)
	state := func(n int) func(t testing.TB, x *both) {
		return func(t testing.TB, x *both) { x.checkpoint(t, all(n, 7)) }
	}
	var l []deed
	for _, n := range []int{0, 122, 123, 124, 251, 252, 507} {
		b := text(r, n)
		do := func(t testing.TB, x *both) api.Errno { return x.checkpoint(t, b) }
		l = append(l, deed{"the first state", func(testing.TB, *both) {}, do})
		l = append(l, deed{"the second state", state(200), do})
		l = append(l, deed{"the third state", func(t testing.TB, x *both) {
			state(500)(t, x)
			state(3)(t, x)
			x.append(t, all(100, 2))
			x.commit(t)
			x.append(t, all(100, 3))
		}, do})
	}
	for _, n := range []int{0, 1, 100, 122, 123, 124, 200, 251} {
		for _, m := range []int{0, 1, 118, 123, 124, 246} {
			b := text(r, m)
			l = append(l, deed{"a record", func(t testing.TB, x *both) {
				state(500)(t, x)
				state(n)(t, x)
				x.append(t, b)
			}, func(t testing.TB, x *both) api.Errno { return x.commit(t) }})
		}
	}
	return append(l, deed{"records behind records", func(t testing.TB, x *both) {
		state(500)(t, x)
		state(90)(t, x)
		x.append(t, all(50, 1))
		x.commit(t)
		x.append(t, all(60, 2))
		x.append(t, nil)
		x.append(t, all(70, 3))
	}, func(t testing.TB, x *both) api.Errno { return x.commit(t) }})
}

// prepare is both, just ahead of a deed.
func (c deed) prepare(t testing.TB) *both {
	t.Helper()
	x := begin(t, 10)
	c.with(t, x)
	return x
}

// count is how many changes of the disk a deed makes.
func (c deed) count(t testing.TB) int {
	t.Helper()
	for n := range 100 {
		x := c.prepare(t)
		x.plan(append(make([]byte, n), 2))
		if c.do(t, x) == api.OK {
			if x.d.Off() || x.d.Sync() != api.ErrOff {
				t.Fatal("the plan is not over")
			}
			return n
		}
	}
	t.Fatal("no end")
	return 0
}

// P7.2, P7.3: the changes, one by one: what each leaves, dirty or synced, when the power goes behind it, or when the next one is refused; the log is then broken.
func TestEachChange(t *testing.T) {
	for _, c := range deeds() {
		n := c.count(t)
		if n < 4 {
			t.Fatalf("%s: %d changes", c.name, n)
		}
		for i := range n {
			for bad, want := range map[byte]api.Errno{1: api.ErrIo, 2: api.ErrOff} {
				x := c.prepare(t)
				x.plan(append(make([]byte, i), bad))
				if e := c.do(t, x); e != want {
					t.Fatalf("%s: the change %d: %d, not %d", c.name, i, e, want)
				}
				broken(t, x.l, 512)
				alike(t, x.l, x.d, x.s)
				x.crash(slices.Repeat([]bool{true}, 10), -1, 0)
				same(t, sectors(t, x.d), sectors(t, x.s.d))
			}
		}
	}
}

// crashes are all choices of what stays of so many sectors, and of which one is torn.
func crashes(n int, do func(stay []bool, torn int)) {
	for choice := range 1 << n {
		var stay []bool
		for i := range n {
			stay = append(stay, choice>>i&1 == 1)
		}
		for torn := -1; torn < n; torn++ {
			do(stay, torn)
		}
	}
}

// found is what a disk, opened, tells.
func found(t testing.TB, d *disk.Disk) left {
	t.Helper()
	_, s, r, e := wal.Open(d)
	if e != api.OK {
		t.Fatalf("Open: %d", e)
	}
	return left{s, r}
}

// P7.4: wherever in a deed the power goes, or a change is refused, and whatever stays, there is what was, or what would be; when it was OK, just that.
func TestEachCrash(t *testing.T) {
	for _, c := range deeds() {
		x := c.prepare(t)
		was := found(t, x.d)
		if e := c.do(t, x); e != api.OK {
			t.Fatalf("%s: %d", c.name, e)
		}
		x.crash(nil, -1, 0)
		will := found(t, x.d)
		n := c.count(t)
		for i := range n {
			for _, cut := range []int{0, 1, 4, 11, 12, 13, 16, 23, 24, 64, 127, 128} {
				x := c.prepare(t)
				x.plan(append(make([]byte, i), 2))
				if e := c.do(t, x); e != api.ErrOff {
					t.Fatalf("%s: %d", c.name, e)
				}
				written := len(x.d.Dirty())
				crashes(written, func(stay []bool, torn int) {
					y := c.prepare(t)
					y.plan(append(make([]byte, i), 1+byte(torn&1)))
					c.do(t, y)
					y.d.Crash(stay, torn, cut)
					got := found(t, y.d)
					old := i < n-1 || !stay[0] && torn != 0
					if !got.is(was) && !got.is(will) || old && !got.is(was) {
						t.Fatalf("%s: the change %d, %t stays, %d is torn at %d: %x", c.name, i, stay, torn, cut, got)
					}
				})
			}
		}
	}
}

// P7.4: a head that is torn at any byte is none, or the one that stood there, or the new one.
func TestTornHeads(t *testing.T) {
	for cut := range sectorSize + 1 {
		for first := range 4 {
			x := begin(t, 10)
			for i := range first {
				x.checkpoint(t, all(i, 1))
			}
			was := found(t, x.d)
			x.plan([]byte{0, 0, 0, 2})
			if e := x.checkpoint(t, all(9, 9)); e != api.ErrOff {
				t.Fatal(e)
			}
			x.crash(nil, 0, cut)
			x.open(t)
			want := was
			if cut >= 21 { // the length's second time ends with three noughts
				want = left{state: all(9, 9)}
			}
			if got := found(t, x.d); !got.is(want) {
				t.Fatalf("cut at %d: %x, not %x", cut, got, want)
			}
		}
	}
}

// P7.4: through many crashes, one behind the other, there is always what the last deed left that was OK, or the one behind it.
func TestCrashesOneBehindTheOther(t *testing.T) {
	r := source(74)
	for range 60 {
		x := begin(t, 6+r.Intn(12))
		sure := left{}
		for range 40 {
			maybe := sure
			x.trouble(r)
			for ok := true; ok; {
				switch r.Intn(6) {
				case 0, 1:
					state := text(r, r.Intn(x.s.size()))
					switch x.checkpoint(t, state) {
					case api.OK:
						sure = left{state: state}
					case api.ErrFull:
					default:
						maybe, ok = left{state: state}, false
					}
				case 2:
					next := left{sure.state, slices.Concat(sure.records, x.s.waits)}
					switch x.commit(t) {
					case api.OK:
						sure = next
					case api.ErrOrder:
					default:
						maybe, ok = next, false
					}
				case 3:
					ok = r.Intn(4) > 0
				default:
					x.append(t, text(r, r.Intn(60)))
				}
				if ok {
					maybe = sure
				}
			}
			x.some(r)
			x.open(t)
			if got := found(t, x.d); !got.is(sure) && !got.is(maybe) {
				t.Fatalf("%x, neither %x nor %x", got, sure, maybe)
			}
			sure = found(t, x.d)
		}
	}
}

// P1: on a disk with any bytes a log is opened, as the chapter tells it, and goes on.
func FuzzOpen(f *testing.F) {
	f.Add(headOf(1, 1, 12), headOf(2, 2, 6), join(piece(2, []byte{1}), piece(3, []byte{2})))
	f.Add(headOf(4, 3, 256), headOf(3, 2, 256), join(piece(1, []byte{1}), piece(2, nil), piece(3, []byte{2}), piece(3, nil), piece(2, nil)))
	f.Add(headOf(maxNumber, maxGeneration, 0), headOf(1<<31, 1, 1<<31), []byte{3, 255, 255, 255, 255})
	f.Fuzz(func(t *testing.T, even, odd, bytes []byte) {
		x := begin(t, 7)
		for _, d := range []*disk.Disk{x.d, x.s.d} {
			put(t, d, 0, even[:min(len(even), sectorSize)])
			put(t, d, 1, odd[:min(len(odd), sectorSize)])
			put(t, d, 2, bytes[:min(len(bytes), 256)])
			put(t, d, 4, bytes[:min(len(bytes), 256)])
		}
		x.open(t)
		x.checkpoint(t, even)
		x.append(t, odd)
		x.commit(t)
		x.open(t)
	})
}

// FuzzLog: what is done is told by bytes, by two each.
func FuzzLog(f *testing.F) {
	f.Add([]byte{0, 7, 1, 3, 2, 0, 4, 0, 0, 9})
	f.Add([]byte{0, 200, 1, 100, 2, 0, 1, 100, 3, 2, 2, 0, 4, 255})
	f.Add([]byte{0, 251, 1, 0, 0, 123, 1, 118, 2, 0, 3, 6, 0, 4, 4, 130})
	f.Fuzz(func(t *testing.T, script []byte) {
		x := begin(t, 8)
		for ; len(script) >= 2; script = script[2:] {
			n := int(script[1])
			switch script[0] % 5 {
			case 0:
				x.checkpoint(t, all(2*n, script[1]))
			case 1:
				x.append(t, all(n, script[1]))
			case 2:
				x.commit(t)
			case 3:
				x.plan(append(make([]byte, n%10), byte(1+n/10%2)))
			default:
				x.crash([]bool{n&1 > 0, n&2 > 0, n&4 > 0}, n>>3%5-1, n>>2)
				x.open(t)
			}
		}
	})
}

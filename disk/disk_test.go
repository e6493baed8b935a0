package disk_test

import (
	"bytes"
	"math"
	"math/rand"
	"slices"
	"testing"

	"pennant/api"
	"pennant/disk"
)

const (
	sectorSize = 128
	maxSectors = 4096
)

// source is the same numbers in each run of the tests.
func source(seed int64) *rand.Rand { return rand.New(rand.NewSource(seed)) }

// all is n bytes that are alike.
func all(n int, x byte) []byte { return bytes.Repeat([]byte{x}, n) }

// full is a sector of b, and noughts behind.
func full(b ...byte) []byte { return append(bytes.Clone(b), make([]byte, sectorSize-len(b))...) }

// made is a new disk.
func made(t testing.TB, sectors int) *disk.Disk {
	t.Helper()
	d, e := disk.New(sectors)
	if e != api.OK || d == nil {
		t.Fatalf("New(%d): %v, %d", sectors, d, e)
	}
	return d
}

func write(t testing.TB, d *disk.Disk, k int, b []byte, want api.Errno) {
	t.Helper()
	if e := d.Write(k, b); e != want {
		t.Fatalf("Write(%d) of %d bytes: %d, not %d", k, len(b), e, want)
	}
}

func sync(t testing.TB, d *disk.Disk, want api.Errno) {
	t.Helper()
	if e := d.Sync(); e != want {
		t.Fatalf("Sync: %d, not %d", e, want)
	}
}

// holds fails if the sectors are not these, or the power is off.
func holds(t testing.TB, d *disk.Disk, want ...[]byte) {
	t.Helper()
	if d.Len() != len(want) || d.Off() {
		t.Fatalf("%d sectors, not %d; off: %t", d.Len(), len(want), d.Off())
	}
	for k, w := range want {
		if b, e := d.Read(k); e != api.OK || !bytes.Equal(b, w) {
			t.Fatalf("Read(%d): %x, %d, not %x", k, b, e, w)
		}
	}
}

// unread fails if Read tells anything of k.
func unread(t testing.TB, d *disk.Disk, k int, want api.Errno) {
	t.Helper()
	if b, e := d.Read(k); e != want || len(b) > 0 {
		t.Fatalf("Read(%d): %x, %d, not %d", k, b, e, want)
	}
}

func dirty(t testing.TB, d *disk.Disk, want ...int) {
	t.Helper()
	if l := d.Dirty(); !slices.Equal(l, want) {
		t.Fatalf("Dirty: %d, not %d", l, want)
	}
}

// P5.1: a new disk has noughts, which are synced.
func TestNew(t *testing.T) {
	for _, n := range []int{1, 2, 3, 127, 128, maxSectors - 1, maxSectors} {
		d := made(t, n)
		want := slices.Repeat([][]byte{full()}, n)
		holds(t, d, want...)
		dirty(t, d)
		d.Crash(nil, -1, 0)
		holds(t, d, want...)
	}
	for _, n := range []int{0, -1, -maxSectors, maxSectors + 1, 1 << 20, math.MinInt, math.MaxInt} {
		if d, e := disk.New(n); d != nil || e != api.ErrArg {
			t.Errorf("New(%d): %v, %d", n, d, e)
		}
	}
}

// P5.1, P5.3: there is no sector ahead of the first one, nor behind the last one.
func TestNoSuchSector(t *testing.T) {
	for _, n := range []int{1, 3, maxSectors} {
		d := made(t, n)
		for _, k := range []int{-1, -n, n, n + 1, maxSectors, math.MinInt, math.MaxInt} {
			unread(t, d, k, api.ErrArg)
			write(t, d, k, []byte{1}, api.ErrArg)
			write(t, d, k, nil, api.ErrArg)
			dirty(t, d)
		}
		write(t, d, n-1, []byte{1}, api.OK)
		dirty(t, d, n-1)
	}
}

// P5.1, R1: without power the power is named first by Read; a Write that may not be is no change, and told as such.
func TestErrorsWithoutPower(t *testing.T) {
	d := made(t, 2)
	d.Plan([]byte{2})
	sync(t, d, api.ErrOff)
	for _, k := range []int{-1, 0, 1, 2, math.MaxInt} {
		unread(t, d, k, api.ErrOff)
	}
	write(t, d, 0, all(sectorSize, 1), api.ErrOff)
	write(t, d, 0, all(sectorSize+1, 1), api.ErrArg)
	write(t, d, 2, nil, api.ErrArg)
	write(t, d, -1, nil, api.ErrArg)
	sync(t, d, api.ErrOff)
	if !d.Off() || d.Len() != 2 {
		t.Error(d.Off(), d.Len())
	}
}

// P5.3: a sector is what was written last, and noughts behind, however long what stood there was.
func TestWriteOfEachLength(t *testing.T) {
	d := made(t, 3)
	for n := range sectorSize + 1 {
		write(t, d, 0, all(sectorSize, 255), api.OK)
		write(t, d, 1, all(n, 7), api.OK)
		write(t, d, 0, all(n, 9), api.OK)
		holds(t, d, full(all(n, 9)...), full(all(n, 7)...), full())
	}
	write(t, d, 1, []byte{1, 2}, api.OK)
	for _, n := range []int{sectorSize + 1, sectorSize + 2, 2 * sectorSize, 1 << 16} {
		write(t, d, 1, all(n, 3), api.ErrArg)
		write(t, d, 2, all(n, 3), api.ErrArg)
	}
	holds(t, d, full(all(sectorSize, 9)...), full(1, 2), full())
	dirty(t, d, 0, 1)
	write(t, d, 1, nil, api.OK)
	holds(t, d, full(all(sectorSize, 9)...), full(), full())
}

// P5.3: what was written is dirty, also with what stood there, and once; synced, it is not.
func TestDirty(t *testing.T) {
	d := made(t, maxSectors)
	for _, k := range []int{4095, 7, 0, 300, 7, 12} {
		write(t, d, k, nil, api.OK)
	}
	dirty(t, d, 0, 7, 12, 300, 4095)
	dirty(t, d, 0, 7, 12, 300, 4095)
	sync(t, d, api.OK)
	dirty(t, d)
	sync(t, d, api.OK)
	write(t, d, 12, []byte{1}, api.OK)
	dirty(t, d, 12)
	d.Crash(nil, -1, 0)
	dirty(t, d)
	for k := range maxSectors {
		write(t, d, maxSectors-1-k, []byte{byte(k)}, api.OK)
	}
	l := d.Dirty()
	if len(l) != maxSectors || !slices.IsSorted(l) || l[0] != 0 || l[maxSectors-1] != maxSectors-1 {
		t.Errorf("%d dirty sectors", len(l))
	}
}

// P5.3, P5.5: what was synced is there behind a crash; what was written since is not, if it does not stay.
func TestSyncLasts(t *testing.T) {
	d := made(t, 3)
	write(t, d, 0, []byte{7, 8}, api.OK)
	write(t, d, 2, all(sectorSize, 9), api.OK)
	sync(t, d, api.OK)
	holds(t, d, full(7, 8), full(), all(sectorSize, 9))
	write(t, d, 1, []byte{1}, api.OK)
	write(t, d, 2, []byte{2}, api.OK)
	holds(t, d, full(7, 8), full(1), full(2))
	d.Crash(nil, -1, 0)
	holds(t, d, full(7, 8), full(), all(sectorSize, 9))
	d.Crash([]bool{true, true, true}, 0, sectorSize)
	holds(t, d, full(7, 8), full(), all(sectorSize, 9))
}

// P5.4: the chapter's examples.
func TestKnownCrashes(t *testing.T) {
	d := made(t, 1)
	write(t, d, 0, []byte{7}, api.OK)
	d.Crash(nil, -1, 0)
	holds(t, d, full())
	write(t, d, 0, []byte{7, 8}, api.OK)
	d.Crash(nil, 0, 1)
	holds(t, d, full(7))
}

// mixed is the first n bytes of a, and the others of b.
func mixed(a, b []byte, n int) []byte { return append(bytes.Clone(a[:n]), b[n:]...) }

// P5.4, P5.5: places are those among the dirty sectors; each choice of what stays, and of the torn one, leaves just what it says.
func TestEachCrash(t *testing.T) {
	was, is := all(sectorSize, 3), all(sectorSize, 5)
	places := []int{1, 2, 4} // the dirty ones of five sectors
	for choice := range 1 << len(places) {
		for torn := -2; torn <= len(places)+2; torn++ {
			for _, cut := range []int{0, 1, 64, sectorSize - 1, sectorSize} {
				d := made(t, 5)
				for k := range 5 {
					write(t, d, k, was, api.OK)
				}
				sync(t, d, api.OK)
				want := slices.Repeat([][]byte{was}, 5)
				var stay []bool
				for i, k := range places {
					write(t, d, places[len(places)-1-i], is, api.OK)
					stay = append(stay, choice>>i&1 == 1)
					if stay[i] {
						want[k] = is
					}
					if i == torn {
						want[k] = mixed(is, was, cut)
					}
				}
				d.Crash(stay, torn, cut)
				holds(t, d, want...)
				dirty(t, d)
				d.Crash([]bool{true, true, true, true, true}, 0, 64)
				holds(t, d, want...)
			}
		}
	}
}

// P5.4: a cut of no such length is none, or the whole sector; every other one is as long as it says.
func TestEachCut(t *testing.T) {
	was, is := all(sectorSize, 3), all(sectorSize, 5)
	cuts := []int{math.MinInt, -sectorSize, -2, -1, sectorSize + 1, 1 << 20, math.MaxInt}
	for n := range sectorSize + 1 {
		cuts = append(cuts, n)
	}
	for _, cut := range cuts {
		for _, stay := range [][]bool{nil, {false}, {true}} {
			d := made(t, 1)
			write(t, d, 0, was, api.OK)
			sync(t, d, api.OK)
			write(t, d, 0, is, api.OK)
			d.Crash(stay, 0, cut)
			holds(t, d, mixed(is, was, min(max(cut, 0), sectorSize)))
		}
	}
}

// P5.4: what has no place in stay is lost; places that no dirty sector has say nothing, nor does a torn one that is none.
func TestPlacesThatAreNone(t *testing.T) {
	for _, c := range []struct {
		stay []bool
		torn int
		want [][]byte
	}{
		{nil, -1, [][]byte{full(), full(), full()}},
		{[]bool{}, math.MinInt, [][]byte{full(), full(), full()}},
		{[]bool{true}, math.MaxInt, [][]byte{full(1), full(), full()}},
		{[]bool{false, true}, 3, [][]byte{full(), full(2), full()}},
		{[]bool{true, true, true}, 4, [][]byte{full(1), full(2), full(3)}},
		{append(slices.Repeat([]bool{true}, 3), slices.Repeat([]bool{false}, 5000)...), -1, [][]byte{full(1), full(2), full(3)}},
		{[]bool{false, false, false, true, true}, -1, [][]byte{full(), full(), full()}},
	} {
		d := made(t, 3)
		for k := range 3 {
			write(t, d, k, []byte{byte(k + 1)}, api.OK)
		}
		d.Crash(c.stay, c.torn, sectorSize)
		holds(t, d, c.want...)
	}
}

// P5.2: each number that a change may meet.
func TestEachTrouble(t *testing.T) {
	for x := range 256 {
		d := made(t, 2)
		write(t, d, 0, []byte{1}, api.OK)
		want := api.OK
		switch x {
		case 1:
			want = api.ErrIo
		case 2:
			want = api.ErrOff
		}
		d.Plan([]byte{byte(x)})
		write(t, d, 1, []byte{2}, want)
		if d.Off() != (x == 2) {
			t.Fatalf("%d: off is %t", x, d.Off())
		}
		if want != api.OK {
			dirty(t, d, 0)
			d.Crash([]bool{true, true}, -1, 0)
			holds(t, d, full(1), full())
			continue
		}
		dirty(t, d, 0, 1)
		holds(t, d, full(1), full(2))
	}
	for x := range 256 {
		d := made(t, 2)
		write(t, d, 1, []byte{1}, api.OK)
		d.Plan([]byte{byte(x)})
		switch x {
		case 1:
			sync(t, d, api.ErrIo)
			dirty(t, d, 1)
			holds(t, d, full(), full(1))
		case 2:
			sync(t, d, api.ErrOff)
			dirty(t, d, 1)
		default:
			sync(t, d, api.OK)
			dirty(t, d)
		}
		d.Crash(nil, -1, 0)
		if x == 1 || x == 2 {
			holds(t, d, full(), full())
		} else {
			holds(t, d, full(), full(1))
		}
	}
}

// P5.2: changes meet the plan one by one, Write and Sync alike; what is no change meets nothing; behind its end all is done.
func TestPlanInOrder(t *testing.T) {
	d := made(t, 2)
	d.Plan([]byte{0, 1, 1, 9, 1})
	d.Read(0)
	d.Len()
	d.Off()
	write(t, d, 0, []byte{1}, api.OK)
	write(t, d, 2, []byte{1}, api.ErrArg)
	write(t, d, -1, []byte{1}, api.ErrArg)
	write(t, d, 0, all(sectorSize+1, 1), api.ErrArg)
	d.Dirty()
	sync(t, d, api.ErrIo)
	d.Read(5)
	write(t, d, 0, []byte{2}, api.ErrIo)
	write(t, d, 1, []byte{3}, api.OK)
	write(t, d, 0, all(sectorSize+1, 1), api.ErrArg)
	sync(t, d, api.ErrIo)
	dirty(t, d, 0, 1)
	sync(t, d, api.OK)
	dirty(t, d)
	for range 10 {
		write(t, d, 1, []byte{4}, api.OK)
		sync(t, d, api.OK)
	}
	holds(t, d, full(1), full(4))
}

// P5.2: a Plan ends the one ahead of it, also an empty one.
func TestPlanAnew(t *testing.T) {
	d := made(t, 1)
	d.Plan([]byte{1, 1, 1, 1})
	sync(t, d, api.ErrIo)
	d.Plan([]byte{0, 1})
	sync(t, d, api.OK)
	sync(t, d, api.ErrIo)
	sync(t, d, api.OK)
	for _, none := range [][]byte{nil, {}} {
		d.Plan([]byte{2, 2})
		d.Plan(none)
		sync(t, d, api.OK)
		write(t, d, 0, nil, api.OK)
	}
	holds(t, d, full())
}

// P5.2, P5.4: without power changes meet nothing, and do nothing; a crash brings the power, and ends the plan, also one that was made without power.
func TestPowerAndPlan(t *testing.T) {
	d := made(t, 2)
	write(t, d, 0, []byte{1}, api.OK)
	d.Plan([]byte{2, 1, 2, 1})
	write(t, d, 1, []byte{2}, api.ErrOff)
	for range 3 {
		write(t, d, 1, []byte{2}, api.ErrOff)
		sync(t, d, api.ErrOff)
	}
	dirty(t, d, 0)
	d.Plan([]byte{1, 2})
	sync(t, d, api.ErrOff)
	if !d.Off() {
		t.Fatal("a Plan brought the power")
	}
	d.Crash([]bool{true}, -1, 0)
	sync(t, d, api.OK)
	write(t, d, 1, []byte{3}, api.OK)
	holds(t, d, full(1), full(3))

	d.Plan([]byte{1, 2})
	d.Crash([]bool{true}, -1, 0) // the power was on
	sync(t, d, api.OK)
	write(t, d, 0, []byte{4}, api.OK)
	holds(t, d, full(4), full(3))
}

// P5.1, R2, R3: what is handed in is not changed and not kept, what is told is the caller's own.
func TestNothingIsShared(t *testing.T) {
	d := made(t, 2)
	room := all(sectorSize+10, 7)
	write(t, d, 0, room[:3], api.OK)
	write(t, d, 1, room[:sectorSize], api.OK)
	plan, stay := []byte{0, 1, 0}, []bool{true, false}
	d.Plan(plan)
	if !bytes.Equal(room, all(sectorSize+10, 7)) || !bytes.Equal(plan, []byte{0, 1, 0}) {
		t.Fatalf("an argument was changed: %x, %x", room, plan)
	}
	copy(room, all(len(room), 9))
	copy(plan, []byte{1, 0, 2})
	sync(t, d, api.OK)
	sync(t, d, api.ErrIo)
	want := [][]byte{full(7, 7, 7), all(sectorSize, 7)}
	for range 2 { // synced ones, then one that is dirty
		for k := range 2 {
			b, _ := d.Read(k)
			copy(b, all(sectorSize, 1))
			_ = append(b, 1, 2, 3)
		}
		holds(t, d, want...)
		write(t, d, 1, all(sectorSize, 8), api.OK)
		want[1] = all(sectorSize, 8)
	}
	l := d.Dirty()
	l[0] = 0
	dirty(t, d, 1)
	d.Crash(stay, 1, 0)
	stay[0] = false
	holds(t, d, want...)
	if !bytes.Equal(plan, []byte{1, 0, 2}) || stay[1] {
		t.Fatalf("an argument was changed: %x, %t", plan, stay)
	}
}

// R4: disks hang on nothing but what was done to each.
func TestDisksApart(t *testing.T) {
	a, b := made(t, 2), made(t, 2)
	write(t, a, 0, []byte{1}, api.OK)
	a.Plan([]byte{2})
	write(t, b, 1, []byte{2}, api.OK)
	sync(t, b, api.OK)
	sync(t, a, api.ErrOff)
	dirty(t, a, 0)
	dirty(t, b)
	holds(t, b, full(), full(2))
	holds(t, made(t, 2), full(), full())
	b.Crash(nil, -1, 0)
	unread(t, a, 0, api.ErrOff)
}

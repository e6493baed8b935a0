package disk_test

import (
	"bytes"
	"math/rand"
	"slices"
	"testing"

	"pennant/api"
	"pennant/disk"
)

// slow is a disk as the chapter tells it, with each sector as it is now, as it is synced, and whether it is dirty.
type slow struct {
	now, synced [][]byte
	dirty       []bool
	plan        []byte
	off         bool
}

func slowDisk(sectors int) *slow {
	s := &slow{dirty: make([]bool, sectors)}
	for range sectors {
		s.now = append(s.now, full())
		s.synced = append(s.synced, full())
	}
	return s
}

// meets is what a change answers; OK, if it is done.
func (s *slow) meets() api.Errno {
	x := byte(0)
	if !s.off && len(s.plan) > 0 {
		x, s.plan = s.plan[0], s.plan[1:]
	}
	s.off = s.off || x == 2
	if s.off {
		return api.ErrOff
	}
	if x == 1 {
		return api.ErrIo
	}
	return api.OK
}

func (s *slow) write(k int, b []byte) api.Errno {
	if k < 0 || k >= len(s.now) || len(b) > sectorSize {
		return api.ErrArg
	}
	e := s.meets()
	if e == api.OK {
		s.now[k], s.dirty[k] = full(b...), true
	}
	return e
}

func (s *slow) sync() api.Errno {
	e := s.meets()
	if e == api.OK {
		s.settle()
	}
	return e
}

// settle is that all sectors are synced as they are.
func (s *slow) settle() {
	for k := range s.now {
		s.synced[k], s.dirty[k] = s.now[k], false
	}
}

func (s *slow) crash(stay []bool, torn, cut int) {
	i := 0
	for k, is := range s.dirty {
		if !is {
			continue
		}
		if i == torn {
			b := bytes.Clone(s.synced[k])
			for j := 0; j < cut && j < sectorSize; j++ {
				b[j] = s.now[k][j]
			}
			s.now[k] = b
		} else if i >= len(stay) || !stay[i] {
			s.now[k] = s.synced[k]
		}
		i++
	}
	s.settle()
	s.off, s.plan = false, nil
}

// alike fails if a disk and a slow one part.
func alike(t *testing.T, d *disk.Disk, s *slow) {
	t.Helper()
	var want []int
	for k, is := range s.dirty {
		if is {
			want = append(want, k)
		}
	}
	dirty(t, d, want...)
	if d.Off() != s.off || d.Len() != len(s.now) {
		t.Fatalf("off: %t, not %t; %d sectors, not %d", d.Off(), s.off, d.Len(), len(s.now))
	}
	if !s.off {
		holds(t, d, s.now...)
		return
	}
	for k := range s.now {
		unread(t, d, k, api.ErrOff)
	}
}

// crashed fails if a crash left what it may not: what P5.5 says, asked by itself.
func crashed(t *testing.T, d *disk.Disk, was, now [][]byte, written []int) {
	t.Helper()
	torn := 0
	for k := range was {
		b, e := d.Read(k)
		switch {
		case e != api.OK:
			t.Fatalf("Read(%d): %d", k, e)
		case bytes.Equal(b, was[k]):
		case !slices.Contains(written, k):
			t.Fatalf("sector %d was synced as %x, and is %x", k, was[k], b)
		case bytes.Equal(b, now[k]):
		default:
			torn++
			n := 0
			for n < sectorSize && b[n] == now[k][n] {
				n++
			}
			if !bytes.Equal(b[n:], was[k][n:]) {
				t.Fatalf("sector %d is %x, of %x and %x", k, b, was[k], now[k])
			}
		}
	}
	if torn > 1 {
		t.Fatalf("%d sectors are torn", torn)
	}
}

// chance does something to both disks.
func chance(t *testing.T, r *rand.Rand, d *disk.Disk, s *slow) {
	t.Helper()
	switch r.Intn(12) {
	case 0:
		if e, want := d.Sync(), s.sync(); e != want {
			t.Fatalf("Sync: %d, not %d", e, want)
		}
	case 1:
		l := make([]byte, r.Intn(6))
		for i := range l {
			l[i] = byte(r.Intn(6) - 2)
		}
		d.Plan(l)
		s.plan = bytes.Clone(l)
	case 2:
		stay := make([]bool, r.Intn(d.Len()+2))
		for i := range stay {
			stay[i] = r.Intn(2) == 0
		}
		torn, cut := r.Intn(d.Len()+2)-1, r.Intn(sectorSize+20)-10
		was, now, written := slices.Clone(s.synced), slices.Clone(s.now), d.Dirty()
		d.Crash(stay, torn, cut)
		s.crash(stay, torn, cut)
		crashed(t, d, was, now, written)
	default:
		k, b := r.Intn(d.Len()+2)-1, make([]byte, r.Intn(sectorSize+2))
		r.Read(b)
		if e, want := d.Write(k, b), s.write(k, b); e != want {
			t.Fatalf("Write(%d) of %d bytes: %d, not %d", k, len(b), e, want)
		}
	}
}

// P5.1 to P5.5: a disk is, whatever is done to it, as the chapter tells it.
func TestDisksByChance(t *testing.T) {
	r := source(5)
	for range 300 {
		n := 1 + r.Intn(9)
		d, s := made(t, n), slowDisk(n)
		for range 100 {
			chance(t, r, d, s)
			alike(t, d, s)
		}
	}
}

// P5.5: what was synced is there, wherever in a row of changes the power goes, and whatever stays.
func TestPowerGoesAtEachChange(t *testing.T) {
	r := source(6)
	for at := range 12 {
		for range 50 {
			d, s := made(t, 4), slowDisk(4)
			plan := append(make([]byte, at), 2)
			d.Plan(plan)
			s.plan = plan
			for i := range 12 {
				if i%4 == 3 {
					if e, want := d.Sync(), s.sync(); e != want {
						t.Fatalf("Sync: %d, not %d", e, want)
					}
					continue
				}
				b := all(1+r.Intn(sectorSize), byte(i+1))
				k := r.Intn(4)
				if e, want := d.Write(k, b), s.write(k, b); e != want {
					t.Fatalf("Write: %d, not %d", e, want)
				}
			}
			if !d.Off() {
				t.Fatalf("the power did not go at the change %d", at)
			}
			stay := []bool{r.Intn(2) == 0, r.Intn(2) == 0, r.Intn(2) == 0}
			torn, cut := r.Intn(5)-1, r.Intn(sectorSize+1)
			was, now, written := slices.Clone(s.synced), slices.Clone(s.now), d.Dirty()
			d.Crash(stay, torn, cut)
			s.crash(stay, torn, cut)
			crashed(t, d, was, now, written)
			alike(t, d, s)
		}
	}
}

// FuzzDisk: what is done is told by bytes, by three each; both disks are alike behind each of them.
func FuzzDisk(f *testing.F) {
	f.Add([]byte{0, 0, 7, 3, 1, 0})
	f.Add([]byte{0, 1, 128, 2, 0, 0, 0, 1, 60, 3, 255, 30})
	f.Add([]byte{1, 1, 2, 0, 0, 129, 0, 0, 9, 2, 0, 0, 3, 0, 0})
	f.Fuzz(func(t *testing.T, script []byte) {
		d, s := made(t, 4), slowDisk(4)
		for ; len(script) >= 3; script = script[3:] {
			x, y := int(script[1]), int(script[2])
			switch script[0] % 4 {
			case 0:
				b := all(y, byte(x)+1)
				if e, want := d.Write(x%6-1, b), s.write(x%6-1, b); e != want {
					t.Fatalf("Write(%d) of %d bytes: %d, not %d", x%6-1, y, e, want)
				}
			case 1:
				d.Plan(script[1:3])
				s.plan = bytes.Clone(script[1:3])
			case 2:
				if e, want := d.Sync(), s.sync(); e != want {
					t.Fatalf("Sync: %d, not %d", e, want)
				}
			default:
				stay := []bool{x&1 > 0, x&2 > 0, x&4 > 0}
				d.Crash(stay, x>>3%6-1, y-20)
				s.crash(stay, x>>3%6-1, y-20)
			}
			alike(t, d, s)
		}
	})
}

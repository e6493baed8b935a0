package flash_test

import (
	"bytes"
	"math/rand"
	"slices"
	"testing"

	"pennant/api"
	"pennant/flash"
)

// slow is a second flash, told by bits, and by what each change would leave.
type slow struct {
	bits    [][8]bool
	erased  []int
	wear    int
	off     bool
	changes []int // ahead of the one in which the power goes, and the bytes of it; none, if nothing was said
}

func slowFlash(blocks, wear int) *slow {
	s := &slow{bits: make([][8]bool, blocks*blockSize), erased: make([]int, blocks), wear: wear}
	s.set(0, len(s.bits))
	return s
}

// set lets bytes be ones.
func (s *slow) set(from, to int) {
	for i := from; i < to; i++ {
		s.bits[i] = [8]bool{true, true, true, true, true, true, true, true}
	}
}

// meets is how many of n bytes of a change are done, and what it answers.
func (s *slow) meets(n int) (int, api.Errno) {
	switch {
	case s.changes == nil:
		return n, api.OK
	case s.changes[0] > 0:
		s.changes = []int{s.changes[0] - 1, s.changes[1]}
		return n, api.OK
	}
	s.off = true
	return done(n, s.changes[1]), api.ErrOff
}

func (s *slow) program(at int, b []byte) api.Errno {
	for i := range b {
		if at+i < 0 || at+i >= len(s.bits) {
			return api.ErrArg
		}
	}
	if len(b) > longest || at < 0 || at > len(s.bits) {
		return api.ErrArg
	}
	if s.off {
		return api.ErrOff
	}
	n, e := s.meets(len(b))
	for i := range b[:n] {
		for j := range 8 {
			if b[i]>>j&1 == 0 {
				s.bits[at+i][j] = false
			}
		}
	}
	return e
}

func (s *slow) erase(block int) api.Errno {
	switch {
	case block < 0 || block >= len(s.erased):
		return api.ErrArg
	case s.off:
		return api.ErrOff
	case s.erased[block] == s.wear:
		return api.ErrWorn
	}
	n, e := s.meets(blockSize)
	s.set(block*blockSize, block*blockSize+n)
	s.erased[block]++
	return e
}

func (s *slow) bytes() []byte {
	l := make([]byte, len(s.bits))
	for i, bits := range s.bits {
		for j, one := range bits {
			if one {
				l[i] |= 1 << j
			}
		}
	}
	return l
}

// alike fails if a flash and a slow one part.
func alike(t *testing.T, f *flash.Flash, s *slow) {
	t.Helper()
	isOff(t, f, s.off)
	wears(t, f, s.erased...)
	if s.off {
		unread(t, f, 0, 1, api.ErrOff)
		return
	}
	holds(t, f, s.bytes())
}

// chance does something to both flashes.
func chance(t *testing.T, r *rand.Rand, f *flash.Flash, s *slow) {
	t.Helper()
	switch r.Intn(9) {
	case 0, 1:
		k := r.Intn(f.Len()+2) - 1
		if e, want := f.Erase(k), s.erase(k); e != want {
			t.Fatalf("Erase(%d): %d, not %d", k, e, want)
		}
	case 2:
		changes, left := r.Intn(6)-1, r.Intn(blockSize+40)-20
		f.Arm(changes, left)
		s.changes = []int{changes, left}
	case 3, 4:
		f.Power()
		s.off, s.changes = false, nil
	default:
		at, b := r.Intn(len(s.bits)+20)-10, make([]byte, r.Intn(1<<r.Intn(13)+1))
		r.Read(b)
		if e, want := f.Program(at, b), s.program(at, b); e != want {
			t.Fatalf("Program(%d) of %d bytes: %d, not %d", at, len(b), e, want)
		}
	}
}

// P6.1 to P6.3: a flash is, whatever is done to it, as the chapter tells it.
func TestFlashesByChance(t *testing.T) {
	r := source(6)
	for range 60 {
		n, wear := 1+r.Intn(6), 1+r.Intn(9)
		f, s := made(t, n, wear), slowFlash(n, wear)
		for range 60 {
			chance(t, r, f, s)
			alike(t, f, s)
		}
	}
}

// filled is a flash of which each byte was programmed, by chance; the same for the same seed.
func filled(t *testing.T, blocks int, seed int64) *flash.Flash {
	t.Helper()
	f := made(t, blocks, maxWear)
	b := make([]byte, blockSize)
	r := source(seed)
	for k := range blocks {
		r.Read(b)
		program(t, f, k*blockSize, b, api.OK)
	}
	return f
}

// P6.4: programmed twice, or with parts of it ahead, in whatever order, it is the same as once.
func TestProgrammedTwice(t *testing.T) {
	r := source(7)
	for range 100 {
		seed := r.Int63()
		once, twice, parts := filled(t, 4, seed), filled(t, 4, seed), filled(t, 4, seed)
		b := make([]byte, r.Intn(longest+1))
		r.Read(b)
		at := r.Intn(4*blockSize - len(b) + 1)
		program(t, once, at, b, api.OK)
		want := whole(t, once)
		program(t, once, at, b, api.OK)
		holds(t, once, want)
		for range 4 {
			from := r.Intn(len(b) + 1)
			to := from + r.Intn(len(b)-from+1)
			program(t, parts, at+from, b[from:to], api.OK)
		}
		program(t, parts, at, b, api.OK)
		holds(t, parts, want)
		half := len(b) / 2
		program(t, twice, at+half, b[half:], api.OK)
		program(t, twice, at, b[:half], api.OK)
		holds(t, twice, want)
	}
}

// P6.4: bits are set by Erase alone, and in its own block alone.
func TestBitsAreSetByEraseAlone(t *testing.T) {
	r := source(8)
	for range 40 {
		f := filled(t, 2, r.Int63())
		for range 30 {
			was := whole(t, f)
			block := -1
			switch r.Intn(4) {
			case 0:
				block = r.Intn(2)
				f.Erase(block)
			case 1:
				f.Arm(r.Intn(3), r.Intn(blockSize))
			default:
				b := make([]byte, r.Intn(blockSize))
				r.Read(b)
				f.Program(r.Intn(2*blockSize), b)
			}
			went := f.Off()
			if went {
				f.Power()
			}
			for i, x := range whole(t, f) {
				if i/blockSize != block && x&^was[i] != 0 {
					t.Fatalf("the byte %d was %08b, and is %08b", i, was[i], x)
				}
				if i/blockSize == block && !went && x != 255 {
					t.Fatalf("the byte %d was erased, and is %d", i, x)
				}
			}
		}
	}
}

// P6.4: a change in which the power went, once or again and again, wherever, and done again, leaves what it would have left at once.
func TestDoneAgain(t *testing.T) {
	r := source(9)
	for range 150 {
		seed := r.Int63()
		at, b := r.Intn(blockSize), make([]byte, r.Intn(blockSize))
		r.Read(b)
		block := r.Intn(2)
		change := func(f *flash.Flash) api.Errno { return f.Program(at, b) }
		if r.Intn(2) == 0 {
			change = func(f *flash.Flash) api.Errno { return f.Erase(block) }
		}
		once, again := filled(t, 2, seed), filled(t, 2, seed)
		if e := change(once); e != api.OK {
			t.Fatalf("at once: %d", e)
		}
		for range 1 + r.Intn(3) {
			again.Arm(0, r.Intn(blockSize+2)-1)
			if e := change(again); e != api.ErrOff {
				t.Fatalf("armed: %d", e)
			}
			again.Power()
		}
		if e := change(again); e != api.OK {
			t.Fatalf("again: %d", e)
		}
		holds(t, again, whole(t, once))
	}
}

// P6.3, P6.4: wherever the power goes, a byte is the old one or the new one, and no new one is behind an old one.
func TestPowerGoesAtEachByte(t *testing.T) {
	was, b := all(300, 0b1110), all(300, 0b0111)
	for left := -1; left <= len(b)+1; left++ {
		f := made(t, 1, 1)
		program(t, f, 0, was, api.OK)
		f.Arm(0, left)
		program(t, f, 0, b, api.ErrOff)
		f.Power()
		k := done(len(b), left)
		reads(t, f, 0, join(all(k, 0b0110), all(len(b)-k, 0b1110), []byte{255})...)
		program(t, f, 0, b, api.OK)
		reads(t, f, 0, all(300, 0b0110)...)
	}
}

// P6.1: whatever is read, in parts or at once, is the same.
func TestReadInParts(t *testing.T) {
	f := filled(t, 8, 10)
	b := whole(t, f)
	r := source(11)
	for range 500 {
		at := r.Intn(len(b) + 1)
		n := r.Intn(min(longest, len(b)-at) + 1)
		reads(t, f, at, b[at:at+n]...)
	}
	l, _ := f.Read(0, longest)
	m, _ := f.Read(longest, longest)
	if !slices.Equal(join(l, m), b) {
		t.Fatal("two halves are not the whole")
	}
}

// FuzzFlash: what is done is told by bytes, by four each; both flashes are alike behind each of them.
func FuzzFlash(f *testing.F) {
	f.Add([]byte{0, 0, 0, 7, 1, 0, 0, 0})
	f.Add([]byte{2, 1, 0, 5, 0, 4, 255, 9, 0, 2, 10, 8, 3, 0, 0, 0})
	f.Add([]byte{2, 0, 255, 255, 1, 1, 0, 0, 3, 0, 0, 0, 1, 1, 0, 0})
	f.Fuzz(func(t *testing.T, script []byte) {
		f, s := made(t, 2, 3), slowFlash(2, 3)
		for ; len(script) >= 4; script = script[4:] {
			x, y, z := int(script[1]), int(script[2]), script[3]
			switch script[0] % 4 {
			case 0:
				at, b := x*9-10, bytes.Repeat([]byte{z, ^z}, y*y/8)
				if e, want := f.Program(at, b), s.program(at, b); e != want {
					t.Fatalf("Program(%d) of %d bytes: %d, not %d", at, len(b), e, want)
				}
			case 1:
				if e, want := f.Erase(x%4-1), s.erase(x%4-1); e != want {
					t.Fatalf("Erase(%d): %d, not %d", x%4-1, e, want)
				}
			case 2:
				f.Arm(x-1, y*int(z)-1)
				s.changes = []int{x - 1, y*int(z) - 1}
			default:
				f.Power()
				s.off, s.changes = false, nil
			}
			alike(t, f, s)
		}
	})
}

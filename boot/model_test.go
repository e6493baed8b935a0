package boot_test

import (
	"bytes"
	"math/rand"
	"slices"
	"testing"

	"pennant/api"
	"pennant/boot"
	"pennant/flash"
)

// source is the same numbers in each run of the tests.
func source(seed int64) *rand.Rand { return rand.New(rand.NewSource(seed)) }

// slowSum is the check sum of 24 bits, bit by bit.
func slowSum(b []byte) []byte {
	s := uint64(0xB704CE)
	for _, x := range b {
		s ^= uint64(x) << 16
		for range 8 {
			s *= 2
			if s>>24 == 1 {
				s ^= 0x1864CFB
			}
		}
	}
	return []byte{byte(s >> 16), byte(s >> 8), byte(s)}
}

// found is an entry, and which of the 64 places it stands at.
type found struct {
	generation int
	record     api.Boot
	at         int
}

// slow is a second keeper, told by bytes that are read one by one; it looks all places up anew at each call, but keeps which one was last.
type slow struct {
	f      *flash.Flash
	block  int
	last   found
	broken bool
}

// cell is the bytes of a place.
func (s *slow) cell(at int) []byte {
	var l []byte
	for i := range entrySize {
		b, e := s.f.Read(s.block*blockSize+at*entrySize+i, 1)
		if e != api.OK {
			return nil
		}
		l = append(l, b...)
	}
	return l
}

// slowRight tells whether a record is one of those that may be.
func slowRight(b api.Boot) bool {
	right := false
	for tries := range 16 {
		v := [2]int{max(0, min(b.Versions[0], maxNumber)), max(0, min(b.Versions[1], maxNumber))}
		right = right || b == api.Boot{Active: 0, Trial: 1, Tries: tries, Versions: v} || b == api.Boot{Active: 1, Trial: 0, Tries: tries, Versions: v}
		right = right || b == api.Boot{Active: 0, Trial: -1, Versions: v} || b == api.Boot{Active: 1, Trial: -1, Versions: v}
	}
	return right
}

// look is the entry at a place; it is one if its numbers, written again, are what stands there.
func (s *slow) look(at int) (found, bool) {
	b := s.cell(at)
	four := func(i int) int { return int(b[i]) + int(b[i+1])<<8 + int(b[i+2])<<16 + int(b[i+3])<<24 }
	x := found{generation: four(0), record: rec(int(b[4]), int(b[5])-1, int(b[6]), four(7), four(11)), at: at}
	text := numbers(x.generation, x.record)
	return x, bytes.Equal(b, slices.Concat(text, slowSum(text))) && slowRight(x.record) && x.generation > 0 && x.generation <= maxNumber
}

// open is a slow keeper of what there is.
func open(f *flash.Flash, block int) *slow {
	s := &slow{f: f, block: block}
	var l []found
	for at := range 2 * inBlock {
		if x, is := s.look(at); is {
			l = append(l, x)
		}
	}
	slices.SortStableFunc(l, func(a, b found) int { return b.generation - a.generation })
	s.last = append(l, found{record: zero, at: -1})[0]
	return s
}

// free are the places at which the next entry may stand, without an Erase.
func (s *slow) free() []int {
	var l []int
	for at := range 2 * inBlock {
		half := 0
		if s.last.at >= inBlock {
			half = 1
		}
		if at > s.last.at && at/inBlock == half && bytes.Equal(s.cell(at), bytes.Repeat([]byte{255}, entrySize)) {
			l = append(l, at)
		}
	}
	return l
}

func (s *slow) save(b api.Boot) api.Errno {
	switch {
	case s.broken:
		return api.ErrBroken
	case !slowRight(b):
		return api.ErrArg
	case s.last.generation == maxNumber:
		return api.ErrFull
	}
	s.broken = true
	if s.f.Off() {
		return api.ErrOff
	}
	next := found{generation: s.last.generation + 1, record: b}
	if l := s.free(); len(l) > 0 {
		next.at = l[0]
	} else {
		half := 1
		if s.last.at >= inBlock {
			half = 0
		}
		if e := s.f.Erase(s.block + half); e != api.OK {
			return e
		}
		next.at = half * inBlock
	}
	text := numbers(next.generation, b)
	if e := s.f.Program(s.block*blockSize+next.at*entrySize, slices.Concat(text, slowSum(text))); e != api.OK {
		return e
	}
	s.last, s.broken = next, false
	return api.OK
}

// both is a keeper and a slow one, each on a flash of its own.
type both struct {
	f, g  *flash.Flash
	block int
	k     *boot.Keeper
	s     *slow
}

func begin(t testing.TB, blocks, block, wear int) *both {
	t.Helper()
	x := &both{f: made(t, blocks, wear), g: made(t, blocks, wear), block: block}
	x.open(t)
	return x
}

func (x *both) open(t testing.TB) {
	t.Helper()
	x.k, x.s = opened(t, x.f, x.block), open(x.g, x.block)
	x.alike(t)
}

func (x *both) power() {
	x.f.Power()
	x.g.Power()
}

func (x *both) arm(changes, left int) {
	x.f.Arm(changes, left)
	x.g.Arm(changes, left)
}

func (x *both) program(at int, b []byte) {
	x.f.Program(at, b)
	x.g.Program(at, b)
}

func (x *both) save(t testing.TB, b api.Boot) api.Errno {
	t.Helper()
	want := x.s.save(b)
	save(t, x.k, b, want)
	x.alike(t)
	return want
}

// alike fails if both part, in what they tell, or in their flashes.
func (x *both) alike(t testing.TB) {
	t.Helper()
	tells(t, x.k, x.s.last.generation, x.s.last.record)
	if x.f.Off() != x.g.Off() {
		t.Fatalf("off: %t, not %t", x.f.Off(), x.g.Off())
	}
	if x.f.Off() {
		return
	}
	cells, erased := whole(t, x.g)
	got, _ := whole(t, x.f)
	if !bytes.Equal(got, cells) {
		t.Fatal("the flashes part")
	}
	wears(t, x.f, erased...)
}

// chanceRecord is one that mostly may be.
func chanceRecord(r *rand.Rand) api.Boot {
	version := func() int {
		return []int{0, 1, r.Intn(256), r.Intn(1 << 16), maxNumber - 1, maxNumber, r.Intn(maxNumber)}[r.Intn(7)]
	}
	active := r.Intn(2)
	b := rec(active, 1-active, r.Intn(16), version(), version())
	if r.Intn(3) == 0 {
		b.Trial, b.Tries = -1, 0
	}
	switch r.Intn(30) {
	case 0:
		b.Active = r.Intn(5) - 2
	case 1:
		b.Trial = r.Intn(6) - 2
	case 2:
		b.Tries = r.Intn(20) - 2
	case 3:
		b.Versions[r.Intn(2)] = []int{-1, maxNumber + 1, -maxNumber, 1 << 31}[r.Intn(4)]
	}
	return b
}

// P9.1: Next by chance, of records that may be or not, by the rules one by one.
func TestNextByChance(t *testing.T) {
	r := source(90)
	for range 20000 {
		b, most := chanceRecord(r), r.Intn(20)-2
		want, slot := b, b.Active
		if boot.Right(b) != slowRight(b) {
			t.Fatalf("Right(%v)", b)
		}
		if slowRight(b) && b.Trial >= 0 {
			if b.Tries < most {
				slot = b.Trial
				want.Tries += []int{1, 0}[b.Tries/15]
			} else {
				want = rec(b.Active, -1, 0, b.Versions[0], b.Versions[1])
			}
		}
		next(t, b, most, want, slot)
		if after, _ := boot.Next(b, most); boot.Right(after) != boot.Right(b) {
			t.Fatalf("Next(%v, %d) is %v", b, most, after)
		}
	}
}

// P9.2, P9.3, P9.4: whatever is saved, whenever the power goes, and whatever others program into free places, a keeper tells what the slow one does, and the flash is alike byte by byte; opened again, there is the last record that was OK, or the one that was just saved.
func TestKeepersByChance(t *testing.T) {
	r := source(91)
	erasedHalf := 0
	for range 60 {
		blocks := 2 + r.Intn(3)
		x := begin(t, blocks, r.Intn(blocks-1), 1+r.Intn(12))
		for range 40 {
			if r.Intn(2) == 0 {
				x.arm(r.Intn(40), []int{r.Intn(entrySize + 2), r.Intn(blockSize + 2)}[r.Intn(2)]-1)
			}
			last, just := x.s.last.record, x.s.last.record
			for range r.Intn(50) {
				was, b := x.s.broken, chanceRecord(r)
				switch e := x.save(t, b); {
				case e == api.OK:
					last, just = b, b
				case e == api.ErrOff && !was:
					just = b
				}
			}
			x.power()
			x.open(t)
			if got := x.k.Record(); got != last && got != just {
				t.Fatalf("%v is there, neither %v nor %v", got, last, just)
			}
			if b := x.s.cell(x.s.last.at/inBlock*inBlock ^ inBlock); x.s.last.at >= 0 && b[0] == 255 {
				erasedHalf++
			}
			if r.Intn(8) == 0 {
				x.program(x.block*blockSize+r.Intn(2*blockSize-4), []byte{255, byte(r.Intn(256)), 255, 255})
				x.open(t)
			}
		}
	}
	if erasedHalf < 30 {
		t.Fatalf("%d", erasedHalf)
	}
}

// P9.2: of two blocks of entries by chance, good and bad ones, the same one counts.
func TestOpensByChance(t *testing.T) {
	r := source(92)
	for range 400 {
		x := begin(t, 2, 0, 3)
		most := 1 + r.Intn(40)
		for at := range 2 * inBlock {
			if r.Intn(3) == 0 {
				continue
			}
			b := entry(r.Intn(most), chanceRecord(r))
			switch r.Intn(6) {
			case 0:
				b[r.Intn(entrySize)] ^= 1 << r.Intn(8)
			case 1:
				b = append(b[:r.Intn(entrySize)], bytes.Repeat([]byte{255}, entrySize)...)[:entrySize]
			}
			x.program(at*entrySize, b)
		}
		x.open(t)
		for range 40 {
			x.save(t, chanceRecord(r))
		}
	}
}

// prepared is a keeper with so many records saved.
func prepared(t testing.TB, n int) (*flash.Flash, *boot.Keeper) {
	t.Helper()
	f := made(t, 2, 9)
	k := opened(t, f, 0)
	for i := range n {
		save(t, k, nth(i+1), api.OK)
	}
	return f, k
}

// P9.4: the power goes at each byte of a Save: of its Program, and of its Erase. Opened again, there is what was, or what was just saved, and saving goes on.
func TestEachByte(t *testing.T) {
	for _, n := range []int{0, 1, 5, 31, 32, 63, 64, 65, 255, 256} {
		for change := range 2 {
			bytesOf := entrySize
			erases := n > 0 && n%inBlock == 0
			if change == 1 && !erases {
				break
			}
			if erases && change == 0 {
				bytesOf = blockSize
			}
			for left := range bytesOf + 1 {
				f, k := prepared(t, n)
				was := k.Record()
				f.Arm(change, left)
				save(t, k, nth(n+1), api.ErrOff)
				tells(t, k, n, was)
				f.Power()
				k = opened(t, f, 0)
				if k.Generation() == n {
					tells(t, k, n, was)
				} else {
					tells(t, k, n+1, nth(n+1))
				}
				if whole := left == entrySize && (change == 1 || !erases); whole && k.Generation() == n {
					t.Fatalf("%d records: all bytes were programmed, and it is not there", n)
				}
				generation := k.Generation()
				for i := range 3 {
					save(t, k, nth(900+i), api.OK)
					tells(t, opened(t, f, 0), generation+i+1, nth(900+i))
				}
			}
		}
	}
}

// P9.4: the power goes again and again, in one Save behind the other, and a device that begins so with a trial goes back.
func TestAgainAndAgain(t *testing.T) {
	r := source(93)
	for range 200 {
		f, k := prepared(t, r.Intn(100))
		save(t, k, rec(1, 0, 0, 7, 8), api.OK)
		tries, most := 0, 1+r.Intn(15)
		for begun := range 100 {
			k = opened(t, f, 0)
			if k.Record().Trial < 0 { // a Save in which the power went may have done all
				break
			}
			if k.Record().Tries < tries || k.Record().Tries > most {
				t.Fatalf("%v, behind %d tries", k.Record(), tries)
			}
			b, slot := boot.Next(k.Record(), most)
			if begun%2 == 0 {
				f.Arm(r.Intn(2), r.Intn(2*entrySize))
			}
			e := k.Save(b)
			f.Power()
			if e != api.OK {
				continue
			}
			if slot == 1 {
				break
			}
			tries = b.Tries
		}
		if k = opened(t, f, 0); k.Record() != rec(1, -1, 0, 7, 8) {
			t.Fatalf("%v", k.Record())
		}
	}
}

// FuzzOpen: whatever lies there, Open ends, and tells what the slow keeper does; saving goes on behind it.
func FuzzOpen(f *testing.F) {
	f.Add(entry(1, nth(1)), entry(1, nth(2)), uint8(0), uint8(40))
	f.Add(slices.Concat(entry(1, nth(1)), entry(2, nth(2))), entry(3, nth(3)), uint8(30), uint8(32))
	f.Add(entry(maxNumber, nth(1)), entry(maxNumber-1, nth(1)), uint8(9), uint8(9))
	f.Add([]byte{0}, numbers(1, nth(1)), uint8(9), uint8(9))
	f.Fuzz(func(t *testing.T, a, b []byte, p, q uint8) {
		x := begin(t, 2, 0, 2)
		x.program(int(p%64)*entrySize, a)
		x.program(int(q%64)*entrySize, b)
		x.open(t)
		for i := range 40 {
			x.save(t, nth(i))
		}
	})
}

// FuzzKeeper: what is done is told by bytes, by two each.
func FuzzKeeper(f *testing.F) {
	f.Add([]byte{0, 1, 1, 40, 2, 3, 0, 9, 3, 0, 0, 7})
	f.Add([]byte{1, 255, 1, 3, 2, 200, 0, 0, 3, 0, 4, 9, 1, 70})
	f.Fuzz(func(t *testing.T, script []byte) {
		x := begin(t, 3, 1, 3)
		for ; len(script) >= 2; script = script[2:] {
			n := int(script[1])
			last, just, was := x.s.last.record, nth(n), x.s.broken
			switch script[0] % 5 {
			case 0:
				x.save(t, nth(n))
			case 1:
				for i := range n % 40 {
					x.save(t, nth(n+i))
				}
			case 2:
				x.arm(n%3, n*5)
			case 3:
				x.power()
				x.open(t)
			case 4:
				x.power()
				x.program(blockSize+n*8, []byte{byte(n)})
				x.open(t) // it may have been the last entry
			}
			if script[0]%5 == 0 && !was && x.s.broken {
				x.power()
				x.open(t)
				if got := x.k.Record(); got != last && got != just {
					t.Fatalf("%v is there, neither %v nor %v", got, last, just)
				}
			}
		}
	})
}

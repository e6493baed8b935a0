package flash_test

import (
	"bytes"
	"math"
	"math/rand"
	"slices"
	"testing"

	"pennant/api"
	"pennant/flash"
)

const (
	blockSize = 1024
	maxBlocks = 256
	maxWear   = 10000
	longest   = 4096
)

// source is the same numbers in each run of the tests.
func source(seed int64) *rand.Rand { return rand.New(rand.NewSource(seed)) }

// all is n bytes that are alike.
func all(n int, x byte) []byte { return bytes.Repeat([]byte{x}, n) }

// join is parts one behind the other.
func join(parts ...[]byte) []byte { return slices.Concat(parts...) }

// made is a new flash.
func made(t testing.TB, blocks, wear int) *flash.Flash {
	t.Helper()
	f, e := flash.New(blocks, wear)
	if e != api.OK || f == nil {
		t.Fatalf("New(%d, %d): %v, %d", blocks, wear, f, e)
	}
	return f
}

func program(t testing.TB, f *flash.Flash, at int, b []byte, want api.Errno) {
	t.Helper()
	if e := f.Program(at, b); e != want {
		t.Fatalf("Program(%d) of %d bytes: %d, not %d", at, len(b), e, want)
	}
}

func erase(t testing.TB, f *flash.Flash, block int, want api.Errno) {
	t.Helper()
	if e := f.Erase(block); e != want {
		t.Fatalf("Erase(%d): %d, not %d", block, e, want)
	}
}

// reads fails if the bytes from at on are not these.
func reads(t testing.TB, f *flash.Flash, at int, want ...byte) {
	t.Helper()
	if b, e := f.Read(at, len(want)); e != api.OK || !bytes.Equal(b, want) {
		t.Fatalf("Read(%d, %d): %x, %d, not %x", at, len(want), b, e, want)
	}
}

// unread fails if Read tells anything.
func unread(t testing.TB, f *flash.Flash, at, n int, want api.Errno) {
	t.Helper()
	if b, e := f.Read(at, n); e != want || len(b) > 0 {
		t.Fatalf("Read(%d, %d): %x, %d, not %d", at, n, b, e, want)
	}
}

// whole is all that a flash holds, block by block.
func whole(t testing.TB, f *flash.Flash) []byte {
	t.Helper()
	var l []byte
	for k := range f.Len() {
		b, e := f.Read(k*blockSize, blockSize)
		if e != api.OK {
			t.Fatalf("the block %d: %d", k, e)
		}
		l = append(l, b...)
	}
	return l
}

// holds fails if the blocks are not, one behind the other, this.
func holds(t testing.TB, f *flash.Flash, want []byte) {
	t.Helper()
	b := whole(t, f)
	if len(b) != len(want) {
		t.Fatalf("%d bytes, not %d", len(b), len(want))
	}
	for i := range b {
		if b[i] != want[i] {
			t.Fatalf("the byte %d is %d, not %d", i, b[i], want[i])
		}
	}
}

// wears fails if the blocks were not erased so often.
func wears(t testing.TB, f *flash.Flash, want ...int) {
	t.Helper()
	if f.Len() != len(want) {
		t.Fatalf("%d blocks, not %d", f.Len(), len(want))
	}
	for k, w := range want {
		if n, e := f.Wear(k); e != api.OK || n != w {
			t.Fatalf("Wear(%d): %d, %d, not %d", k, n, e, w)
		}
	}
}

func isOff(t testing.TB, f *flash.Flash, want bool) {
	t.Helper()
	if f.Off() != want {
		t.Fatalf("off: %t", f.Off())
	}
}

// P6.1: a new flash has ones alone, power, and was never erased.
func TestNew(t *testing.T) {
	for _, n := range []int{1, 2, 3, maxBlocks - 1, maxBlocks} {
		for _, wear := range []int{1, 2, maxWear - 1, maxWear} {
			f := made(t, n, wear)
			isOff(t, f, false)
			holds(t, f, all(n*blockSize, 255))
			wears(t, f, make([]int, n)...)
		}
	}
}

// P6.1: so many blocks, or erased so often, may not be.
func TestNewOfWrong(t *testing.T) {
	for _, c := range [][2]int{
		{0, 1}, {-1, 1}, {math.MinInt, 1}, {maxBlocks + 1, 1}, {1 << 20, 1}, {math.MaxInt, 1},
		{1, 0}, {1, -1}, {1, math.MinInt}, {1, maxWear + 1}, {1, 1 << 20}, {1, math.MaxInt},
		{0, 0}, {maxBlocks + 1, maxWear + 1}, {maxBlocks, maxWear + 1}, {maxBlocks + 1, maxWear},
	} {
		if f, e := flash.New(c[0], c[1]); f != nil || e != api.ErrArg {
			t.Errorf("New(%d, %d): %v, %d", c[0], c[1], f, e)
		}
	}
}

// P6.1, P6.2: there is no block ahead of the first one, nor behind the last one.
func TestNoSuchBlock(t *testing.T) {
	for _, n := range []int{1, 3, maxBlocks} {
		f := made(t, n, 2)
		for _, k := range []int{-1, -n, n, n + 1, maxBlocks, math.MinInt, math.MaxInt} {
			if w, e := f.Wear(k); w != 0 || e != api.ErrArg {
				t.Fatalf("Wear(%d): %d, %d", k, w, e)
			}
			erase(t, f, k, api.ErrArg)
		}
		wears(t, f, make([]int, n)...)
		erase(t, f, n-1, api.OK)
		wears(t, f, append(make([]int, n-1), 1)...)
	}
}

// spans are places and lengths, and whether they may be in a flash of n bytes.
func spans(n int) map[[2]int]bool {
	return map[[2]int]bool{
		{0, 0}: true, {0, 1}: true, {n - 1, 1}: true, {n, 0}: true, {n - 1, 0}: true,
		{0, min(n, longest)}: true, {n - min(n, longest), min(n, longest)}: true,
		{0, longest}: n >= longest, {1, longest}: n > longest, {0, longest + 1}: false,
		{n, 1}: false, {n - 1, 2}: false, {n + 1, 0}: false, {n + 1, 1}: false,
		{n - longest + 1, longest}: false, {1, n}: false, {0, n + 1}: false,
		{-1, 0}: false, {-1, 1}: false, {-1, 2}: false, {-longest, longest}: false,
		{math.MinInt, 0}: false, {math.MinInt, 1}: false, {math.MinInt, longest}: false,
		{math.MaxInt, 0}: false, {math.MaxInt, 1}: false, {math.MaxInt, longest}: false,
		{math.MaxInt - longest, longest}: false, {math.MaxInt - longest + 1, longest}: false,
	}
}

// P6.1, P6.2: bytes may be read, and programmed, if they are at most 4096, and all there; also none of them behind the last one.
func TestEachSpan(t *testing.T) {
	for _, blocks := range []int{1, 3, 4, 5, maxBlocks} {
		for c, may := range spans(blocks * blockSize) {
			f := made(t, blocks, 1)
			at, n := c[0], c[1]
			if !may {
				unread(t, f, at, n, api.ErrArg)
				program(t, f, at, all(n, 0), api.ErrArg)
				holds(t, f, all(blocks*blockSize, 255))
				continue
			}
			reads(t, f, at, all(n, 255)...)
			program(t, f, at, all(n, 0), api.OK)
			reads(t, f, at, all(n, 0)...)
			holds(t, f, join(all(at, 255), all(n, 0), all(blocks*blockSize-at-n, 255)))
		}
	}
}

// P6.1: less than no bytes are not read.
func TestReadOfLessThanNone(t *testing.T) {
	f := made(t, 5, 1)
	for _, n := range []int{-1, -2, -longest, math.MinInt} {
		for _, at := range []int{0, 1, 10, 5 * blockSize, -1, math.MaxInt, math.MinInt} {
			unread(t, f, at, n, api.ErrArg)
		}
	}
	for _, n := range []int{longest + 1, 5 * blockSize, math.MaxInt} {
		for _, at := range []int{0, 1, -1, math.MaxInt, math.MinInt} {
			unread(t, f, at, n, api.ErrArg)
		}
	}
}

// P6.2: the chapter's example, and a place that is not the first one.
func TestKnownPrograms(t *testing.T) {
	for _, at := range []int{0, 1, 1023, 1024, 2047} {
		f := made(t, 2, 1)
		program(t, f, at, []byte{15}, api.OK)
		program(t, f, at, []byte{60}, api.OK)
		holds(t, f, join(all(at, 255), []byte{12}, all(2*blockSize-1-at, 255)))
	}
}

// P6.2: each byte over each other one is both by AND.
func TestEachByteOverEach(t *testing.T) {
	f := made(t, 1, maxWear)
	for x := range 256 {
		erase(t, f, 0, api.OK)
		program(t, f, 0, all(256, byte(x)), api.OK)
		var over, want []byte
		for y := range 256 {
			over, want = append(over, byte(y)), append(want, byte(x&y))
		}
		program(t, f, 0, over, api.OK)
		holds(t, f, join(want, all(blockSize-256, 255)))
	}
}

// P6.2: an Erase is of one block, all of it, and of no other.
func TestEraseOfEachBlock(t *testing.T) {
	for k := range 4 {
		f := made(t, 4, 3)
		program(t, f, 0, all(longest, 7), api.OK)
		erase(t, f, k, api.OK)
		want := all(longest, 7)
		copy(want[k*blockSize:], all(blockSize, 255))
		holds(t, f, want)
		erased := make([]int, 4)
		erased[k] = 1
		wears(t, f, erased...)
	}
}

// P6.2: a block may be erased so often, each for itself; then it is worn out, and stays as it is, but may be programmed.
func TestWornOut(t *testing.T) {
	for _, wear := range []int{1, 2, 7, maxWear} {
		f := made(t, 2, wear)
		for i := range wear {
			program(t, f, blockSize, []byte{byte(i), 9}, api.OK)
			erase(t, f, 1, api.OK)
			reads(t, f, blockSize, 255, 255)
		}
		wears(t, f, 0, wear)
		program(t, f, blockSize, []byte{3}, api.OK)
		for range 3 {
			erase(t, f, 1, api.ErrWorn)
			reads(t, f, blockSize, 3, 255)
		}
		wears(t, f, 0, wear)
		program(t, f, blockSize, []byte{5}, api.OK)
		reads(t, f, blockSize, 1, 255)
		erase(t, f, 0, api.OK)
		wears(t, f, 1, wear)
	}
}

// P6.1, P6.2, R1: without power Read names the power first, Program and Erase what may not be; what may be is off, also an Erase of what is worn out.
func TestErrorsWithoutPower(t *testing.T) {
	f := made(t, 2, 1)
	erase(t, f, 1, api.OK)
	program(t, f, 3, []byte{1}, api.OK)
	f.Arm(0, 0)
	program(t, f, 0, nil, api.ErrOff)
	isOff(t, f, true)
	for c := range spans(2 * blockSize) {
		unread(t, f, c[0], c[1], api.ErrOff)
	}
	unread(t, f, 0, -1, api.ErrOff)
	program(t, f, 0, []byte{1}, api.ErrOff)
	program(t, f, 2*blockSize, nil, api.ErrOff)
	program(t, f, 2*blockSize, []byte{1}, api.ErrArg)
	program(t, f, -1, nil, api.ErrArg)
	program(t, f, 0, all(longest+1, 1), api.ErrArg)
	erase(t, f, 0, api.ErrOff)
	erase(t, f, 1, api.ErrOff)
	erase(t, f, 2, api.ErrArg)
	erase(t, f, -1, api.ErrArg)
	wears(t, f, 0, 1) // told without power too
	if w, e := f.Wear(2); w != 0 || e != api.ErrArg {
		t.Fatal(w, e)
	}
	isOff(t, f, true)
	f.Power()
	isOff(t, f, false)
	holds(t, f, join(all(3, 255), []byte{1}, all(2*blockSize-4, 255)))
	erase(t, f, 1, api.ErrWorn)
}

// P6.3: the chapter's example.
func TestKnownArm(t *testing.T) {
	f := made(t, 1, 1)
	f.Arm(0, 1)
	program(t, f, 0, []byte{1, 2}, api.ErrOff)
	isOff(t, f, true)
	f.Power()
	isOff(t, f, false)
	reads(t, f, 0, 1, 255)
}

// done is how many of n bytes are done, if the power goes at so many.
func done(n, left int) int { return min(max(left, 0), n) }

// P6.3: so many bytes of a Program are done, none below one, all beyond its length; it is off also when all are done.
func TestProgramIsCut(t *testing.T) {
	for _, n := range []int{0, 1, 2, 5, 1500, longest} {
		for _, left := range []int{math.MinInt, -2, -1, 0, 1, 2, 4, 5, 6, 1499, 1500, 1501, longest - 1, longest, longest + 1, math.MaxInt} {
			f := made(t, 5, 1)
			f.Arm(0, left)
			program(t, f, 700, all(n, 3), api.ErrOff)
			isOff(t, f, true)
			f.Power()
			k := done(n, left)
			holds(t, f, join(all(700, 255), all(k, 3), all(5*blockSize-700-k, 255)))
			wears(t, f, 0, 0, 0, 0, 0)
		}
	}
}

// P6.3: so many bytes of an Erase are done, from the first one on, and it counts, also with none.
func TestEraseIsCut(t *testing.T) {
	for _, left := range []int{math.MinInt, -1, 0, 1, 2, 500, 1022, 1023, 1024, 1025, 5000, math.MaxInt} {
		f := made(t, 3, 2)
		program(t, f, 0, all(3*blockSize, 9), api.OK)
		f.Arm(0, left)
		erase(t, f, 1, api.ErrOff)
		isOff(t, f, true)
		wears(t, f, 0, 1, 0)
		f.Power()
		k := done(blockSize, left)
		holds(t, f, join(all(blockSize, 9), all(k, 255), all(2*blockSize-k, 9)))
		f.Arm(0, 0)
		erase(t, f, 1, api.ErrOff)
		wears(t, f, 0, 2, 0)
		f.Power()
		erase(t, f, 1, api.ErrWorn)
		holds(t, f, join(all(blockSize, 9), all(k, 255), all(2*blockSize-k, 9)))
	}
}

// P6.3: the power goes in the change behind so many, of Program and Erase alike; below one it is the first.
func TestEachChange(t *testing.T) {
	for _, changes := range []int{math.MinInt, -7, -1, 0, 1, 2, 3, 4, 5} {
		f := made(t, 2, 9)
		f.Arm(changes, 1)
		for i := range max(changes, 0) {
			if i%2 == 0 {
				program(t, f, 2*i, []byte{byte(i), 0}, api.OK)
			} else {
				erase(t, f, 1, api.OK)
			}
			isOff(t, f, false)
		}
		program(t, f, 20, []byte{7, 8}, api.ErrOff)
		isOff(t, f, true)
		program(t, f, 21, []byte{7, 8}, api.ErrOff)
		erase(t, f, 1, api.ErrOff)
		f.Power()
		reads(t, f, 20, 7, 255)
		program(t, f, 21, []byte{7, 8}, api.OK)
		erase(t, f, 1, api.OK)
	}
	f := made(t, 1, maxWear)
	f.Arm(math.MaxInt, 0)
	for range maxWear {
		erase(t, f, 0, api.OK)
	}
	isOff(t, f, false)
}

// P6.3: what is no change is not one of those ahead: what may not be, what is worn out, what only asks; an empty Program is one.
func TestWhatIsNoChange(t *testing.T) {
	f := made(t, 2, 1)
	erase(t, f, 1, api.OK)
	f.Arm(2, 1)
	for range 5 {
		f.Len()
		f.Off()
		f.Wear(0)
		f.Wear(7)
		f.Read(0, 5)
		f.Read(-1, 5)
		program(t, f, 2*blockSize, []byte{1}, api.ErrArg)
		program(t, f, 0, all(longest+1, 0), api.ErrArg)
		erase(t, f, 2, api.ErrArg)
		erase(t, f, 1, api.ErrWorn)
	}
	program(t, f, 2*blockSize, nil, api.OK) // the first one
	erase(t, f, 1, api.ErrWorn)
	erase(t, f, 0, api.OK) // the second one
	erase(t, f, 0, api.ErrWorn)
	erase(t, f, 1, api.ErrWorn)
	program(t, f, -1, []byte{1}, api.ErrArg)
	isOff(t, f, false)
	program(t, f, 0, []byte{1, 2}, api.ErrOff)
	f.Power()
	reads(t, f, 0, 1, 255)
}

// P6.3: an Arm ends what an earlier one said, as it was when half of it was behind.
func TestArmAnew(t *testing.T) {
	f := made(t, 1, 9)
	f.Arm(0, 0)
	f.Arm(1, 2)
	program(t, f, 0, []byte{1, 2, 3}, api.OK)
	f.Arm(2, 1)
	program(t, f, 3, []byte{1, 2, 3}, api.OK)
	program(t, f, 6, []byte{1, 2, 3}, api.OK)
	program(t, f, 9, []byte{1, 2, 3}, api.ErrOff)
	f.Power()
	reads(t, f, 0, 1, 2, 3, 1, 2, 3, 1, 2, 3, 1, 255, 255)
	f.Arm(5, 5)
	f.Arm(-1, -1)
	erase(t, f, 0, api.ErrOff)
	f.Power()
	reads(t, f, 0, 1, 2, 3)
}

// P6.3: Power brings the power and ends what Arm said, whether it was off or on, and also what was said without power.
func TestPower(t *testing.T) {
	f := made(t, 1, 9)
	f.Power()
	isOff(t, f, false)
	f.Arm(0, 0)
	isOff(t, f, false) // it goes in a change, not ahead of it
	reads(t, f, 0, 255)
	f.Power()
	program(t, f, 0, []byte{1}, api.OK)
	f.Arm(2, 0)
	program(t, f, 1, []byte{1}, api.OK)
	f.Power()
	for i := range 5 {
		program(t, f, 2+i, []byte{1}, api.OK)
	}
	f.Arm(0, 0)
	erase(t, f, 0, api.ErrOff)
	f.Arm(0, 5)
	isOff(t, f, true)
	program(t, f, 0, []byte{0}, api.ErrOff)
	erase(t, f, 0, api.ErrOff)
	f.Arm(1, 5)
	program(t, f, 0, []byte{0}, api.ErrOff)
	f.Power()
	wears(t, f, 1)
	reads(t, f, 0, all(7, 1)...)
	for range 4 {
		program(t, f, 7, []byte{0}, api.OK)
	}
	isOff(t, f, false)
}

// R2: nil and empty are the same.
func TestNilAndEmpty(t *testing.T) {
	for _, none := range [][]byte{nil, {}} {
		f := made(t, 1, 1)
		for _, at := range []int{0, 1, blockSize - 1, blockSize} {
			program(t, f, at, none, api.OK)
		}
		program(t, f, blockSize+1, none, api.ErrArg)
		holds(t, f, all(blockSize, 255))
		f.Arm(0, 9)
		program(t, f, 0, none, api.ErrOff)
		isOff(t, f, true)
	}
}

// R3: what is handed in is not changed and not kept, what is told is the caller's own.
func TestNothingIsShared(t *testing.T) {
	f := made(t, 2, 1)
	room := all(2*blockSize, 7)
	program(t, f, 0, room[:3], api.OK)
	program(t, f, 1, room[:5], api.OK)
	f.Arm(0, 2)
	program(t, f, blockSize, room[:9], api.ErrOff)
	f.Power()
	if !bytes.Equal(room, all(2*blockSize, 7)) {
		t.Fatalf("an argument was changed: %x", room)
	}
	copy(room, all(len(room), 0))
	reads(t, f, 0, 7, 7, 7, 7, 7, 7, 255)
	b, _ := f.Read(0, 6)
	c, _ := f.Read(0, 6)
	copy(b, all(6, 1))
	_ = append(b, 1, 2, 3)
	reads(t, f, 0, 7, 7, 7, 7, 7, 7, 255, 255, 255)
	if !bytes.Equal(c, all(6, 7)) {
		t.Fatalf("two answers share: %x", c)
	}
	erase(t, f, 0, api.OK)
	if !bytes.Equal(c, all(6, 7)) {
		t.Fatalf("an answer was changed: %x", c)
	}
}

// R4: flashes hang on nothing but what was done to each.
func TestFlashesApart(t *testing.T) {
	a, b := made(t, 2, 1), made(t, 2, 2)
	program(t, a, 0, []byte{1}, api.OK)
	erase(t, a, 1, api.OK)
	a.Arm(0, 0)
	program(t, b, 1, []byte{2}, api.OK)
	erase(t, b, 1, api.OK)
	erase(t, b, 1, api.OK)
	erase(t, a, 0, api.ErrOff)
	isOff(t, b, false)
	reads(t, b, 0, 255, 2, 255)
	b.Power()
	isOff(t, a, true)
	a.Power()
	reads(t, a, 0, 1, 255, 255)
	wears(t, a, 1, 1)
	wears(t, b, 0, 2)
}

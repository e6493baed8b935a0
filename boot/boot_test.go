package boot_test

import (
	"bytes"
	"math"
	"testing"

	"pennant/api"
	"pennant/boot"
	"pennant/crc"
	"pennant/flash"
)

const (
	blockSize = 1024
	entrySize = 32
	inBlock   = 32 // entries
	maxNumber = 1 << 30
)

// zero is the record ahead of any Save.
var zero = api.Boot{Trial: -1}

// rec is a record.
func rec(active, trial, tries, v0, v1 int) api.Boot {
	return api.Boot{Active: active, Trial: trial, Tries: tries, Versions: [2]int{v0, v1}}
}

// nth is the i-th of many records, all unlike.
func nth(i int) api.Boot {
	if i%3 == 0 {
		return rec(i%2, -1, 0, i, maxNumber-i)
	}
	return rec(i%2, 1-i%2, i%16, i, 3*i)
}

// numbers are a generation and a record as bytes, and noughts behind them.
func numbers(generation int, b api.Boot) []byte {
	l := make([]byte, 0, entrySize)
	four := func(n int) {
		for range 4 {
			l = append(l, byte(n%256))
			n /= 256
		}
	}
	four(generation)
	l = append(l, byte(b.Active), byte(b.Trial+1), byte(b.Tries))
	four(b.Versions[0])
	four(b.Versions[1])
	return append(l, make([]byte, 14)...)
}

// entry is the 32 bytes of an entry, whether it may be or not.
func entry(generation int, b api.Boot) []byte { return crc.Seal(numbers(generation, b)) }

// made is a new flash.
func made(t testing.TB, blocks, wear int) *flash.Flash {
	t.Helper()
	f, e := flash.New(blocks, wear)
	if e != api.OK {
		t.Fatalf("New(%d, %d): %d", blocks, wear, e)
	}
	return f
}

func program(t testing.TB, f *flash.Flash, at int, b []byte) {
	t.Helper()
	if e := f.Program(at, b); e != api.OK {
		t.Fatalf("Program(%d) of %d bytes: %d", at, len(b), e)
	}
}

func opened(t testing.TB, f *flash.Flash, block int) *boot.Keeper {
	t.Helper()
	k, e := boot.Open(f, block)
	if e != api.OK || k == nil {
		t.Fatalf("Open(%d): %v, %d", block, k, e)
	}
	return k
}

func save(t testing.TB, k *boot.Keeper, b api.Boot, want api.Errno) {
	t.Helper()
	if e := k.Save(b); e != want {
		t.Fatalf("Save(%v): %d, not %d", b, e, want)
	}
}

// tells fails if a keeper has not this.
func tells(t testing.TB, k *boot.Keeper, generation int, b api.Boot) {
	t.Helper()
	if k.Generation() != generation || k.Record() != b {
		t.Fatalf("the generation %d: %v, not %d: %v", k.Generation(), k.Record(), generation, b)
	}
}

// reads fails if the bytes from at on are not these.
func reads(t testing.TB, f *flash.Flash, at int, want []byte) {
	t.Helper()
	if b, e := f.Read(at, len(want)); e != api.OK || !bytes.Equal(b, want) {
		t.Fatalf("Read(%d, %d): %x, %d, not %x", at, len(want), b, e, want)
	}
}

// whole is all that a flash holds, and how often each block was erased.
func whole(t testing.TB, f *flash.Flash) ([]byte, []int) {
	t.Helper()
	var l []byte
	var wears []int
	for k := range f.Len() {
		b, e := f.Read(k*blockSize, blockSize)
		n, w := f.Wear(k)
		if e != api.OK || w != api.OK {
			t.Fatalf("the block %d: %d, %d", k, e, w)
		}
		l, wears = append(l, b...), append(wears, n)
	}
	return l, wears
}

// wears fails if the blocks were not erased so often.
func wears(t testing.TB, f *flash.Flash, want ...int) {
	t.Helper()
	for k, n := range want {
		if got, e := f.Wear(k); e != api.OK || got != n {
			t.Fatalf("Wear(%d): %d, %d, not %d", k, got, e, n)
		}
	}
}

// P9.1: at all numbers about the edges those records may be that the chapter lists, and no others.
func TestRight(t *testing.T) {
	edges := []int{math.MinInt, math.MinInt + 1, -256, -2, -1, 0, 1, 2, 3, 7, 14, 15, 16, 255, 256, maxNumber - 1, maxNumber, maxNumber + 1, 1 << 32, math.MaxInt}
	versions := []int{math.MinInt, -1, 0, 1, maxNumber - 1, maxNumber, maxNumber + 1, 1 << 32, math.MaxInt}
	may := map[api.Boot]bool{}
	for _, v := range []int{0, 1, maxNumber - 1, maxNumber} {
		for _, w := range []int{0, 1, maxNumber - 1, maxNumber} {
			may[rec(0, -1, 0, v, w)], may[rec(1, -1, 0, v, w)] = true, true
			for tries := range 16 {
				may[rec(0, 1, tries, v, w)], may[rec(1, 0, tries, v, w)] = true, true
			}
		}
	}
	for _, active := range edges {
		for _, trial := range edges {
			for _, tries := range edges {
				for _, v := range versions {
					for _, w := range versions {
						b := rec(active, trial, tries, v, w)
						if got := boot.Right(b); got != may[b] {
							t.Fatalf("Right(%v): %t", b, got)
						}
					}
				}
			}
		}
	}
	for b := range may {
		if !boot.Right(b) {
			t.Fatalf("Right(%v)", b)
		}
	}
}

func next(t *testing.T, b api.Boot, most int, want api.Boot, slot int) {
	t.Helper()
	if got, s := boot.Next(b, most); got != want || s != slot {
		t.Fatalf("Next(%v, %d): %v, %d, not %v, %d", b, most, got, s, want, slot)
	}
}

// P9.1: the chapter's example.
func TestNextByExample(t *testing.T) {
	next(t, rec(0, 1, 0, 3, 4), 2, rec(0, 1, 1, 3, 4), 1)
	next(t, rec(0, 1, 1, 3, 4), 2, rec(0, 1, 2, 3, 4), 1)
	next(t, rec(0, 1, 2, 3, 4), 2, rec(0, -1, 0, 3, 4), 0)
	next(t, rec(0, -1, 0, 3, 4), 2, rec(0, -1, 0, 3, 4), 0)
}

// P9.1: without a trial nothing changes, whatever most is.
func TestNextWithoutTrial(t *testing.T) {
	for _, most := range []int{math.MinInt, -1, 0, 1, 15, 16, math.MaxInt} {
		next(t, zero, most, zero, 0)
		next(t, rec(1, -1, 0, 5, 6), most, rec(1, -1, 0, 5, 6), 1)
	}
}

// P9.1: what may not be is told as it is, with its Active, also one that is no slot.
func TestNextOfWhatMayNotBe(t *testing.T) {
	for _, b := range []api.Boot{
		{}, rec(0, 0, 3, 1, 1), rec(1, 1, 0, 1, 1), rec(2, 1, 0, 1, 1), rec(-1, 0, 0, 1, 1), rec(77, -78, 5, 1, 1),
		rec(0, 2, 0, 1, 1), rec(0, -2, 0, 1, 1), rec(0, 1, 16, 1, 1), rec(0, 1, -1, 1, 1), rec(0, -1, 1, 1, 1),
		rec(0, 1, 0, -1, 1), rec(0, 1, 0, 1, -1), rec(0, 1, 0, maxNumber+1, 1), rec(1, 0, 0, 1, maxNumber+1),
		rec(math.MinInt, math.MaxInt, math.MaxInt, math.MinInt, 0),
	} {
		for _, most := range []int{math.MinInt, 0, 1, 5, math.MaxInt} {
			next(t, b, most, b, b.Active)
		}
	}
}

// P9.1: at all tries, and every most about them.
func TestNextOfEachTry(t *testing.T) {
	for active := range 2 {
		for tries := range 16 {
			b := rec(active, 1-active, tries, 8, 9)
			for _, most := range []int{math.MinInt, -1, 0, tries - 1, tries} {
				if most <= tries {
					next(t, b, most, rec(active, -1, 0, 8, 9), active)
				}
			}
			for _, most := range []int{tries + 1, tries + 2, 16, 17, math.MaxInt} {
				next(t, b, most, rec(active, 1-active, []int{1, 2, 3, 4, 5, 6, 7, 8, 9, 10, 11, 12, 13, 14, 15, 15}[tries], 8, 9), 1-active)
			}
		}
	}
}

// P9.4: a device that begins again and again goes back behind just so many tries, with its power gone between.
func TestGoesBackBehindTries(t *testing.T) {
	for active := range 2 {
		for most := range 16 {
			f := made(t, 2, 10)
			save(t, opened(t, f, 0), rec(active, 1-active, 0, 3, 4), api.OK)
			tried := 0
			for range 20 {
				k := opened(t, f, 0)
				b, slot := boot.Next(k.Record(), most)
				if b == k.Record() {
					t.Fatalf("%v stays", b)
				}
				save(t, k, b, api.OK)
				if slot == active {
					break
				}
				tried++
			}
			if tried != most {
				t.Fatalf("tried %d times, not %d", tried, most)
			}
			b, slot := boot.Next(opened(t, f, 0).Record(), most)
			if b != rec(active, -1, 0, 3, 4) || slot != active {
				t.Fatalf("%v, %d", b, slot)
			}
		}
	}
}

// P9.2: no flash, or not both blocks.
func TestOpenWrongly(t *testing.T) {
	for _, block := range []int{math.MinInt, -1, 0, 1, math.MaxInt} {
		if k, e := boot.Open(nil, block); e != api.ErrArg || k != nil {
			t.Fatalf("of no flash: %v, %d", k, e)
		}
	}
	for _, n := range []int{1, 2, 3, 256} {
		f := made(t, n, 1)
		for _, off := range []bool{false, true} {
			if off {
				f.Arm(0, 0)
				f.Program(0, []byte{0})
			}
			for _, block := range []int{math.MinInt, -2, -1, n - 1, n, n + 1, math.MaxInt - 1, math.MaxInt} {
				if k, e := boot.Open(f, block); e != api.ErrArg || k != nil {
					t.Fatalf("the block %d of %d: %v, %d", block, n, k, e)
				}
			}
			for block := range n - 1 {
				k, e := boot.Open(f, block)
				if off && (e != api.ErrOff || k != nil) || !off && (e != api.OK || k == nil) {
					t.Fatalf("the block %d of %d, off: %t: %v, %d", block, n, off, k, e)
				}
			}
		}
	}
}

// P9.2: of an empty flash it is the zero record, and Open changes nothing.
func TestOpenEmpty(t *testing.T) {
	f := made(t, 3, 1)
	tells(t, opened(t, f, 0), 0, zero)
	tells(t, opened(t, f, 1), 0, zero)
	reads(t, f, 0, bytes.Repeat([]byte{255}, 3*blockSize))
	wears(t, f, 0, 0, 0)
}

// P9.2, P9.3: an entry is those 32 bytes, and nothing else is changed.
func TestEntryBytes(t *testing.T) {
	f := made(t, 4, 1)
	k := opened(t, f, 1)
	save(t, k, rec(0, 1, 0, 3, 4), api.OK)
	tells(t, k, 1, rec(0, 1, 0, 3, 4))
	text := []byte{1, 0, 0, 0, 0, 2, 0, 3, 0, 0, 0, 4, 0, 0, 0, 0, 0, 0, 0, 0, 0, 0, 0, 0, 0, 0, 0, 0, 0}
	reads(t, f, 0, bytes.Repeat([]byte{255}, blockSize))
	reads(t, f, blockSize, crc.Seal(text))
	reads(t, f, blockSize+entrySize, bytes.Repeat([]byte{255}, 3*blockSize-entrySize))
	save(t, k, rec(1, -1, 0, 0x01020304, maxNumber), api.OK)
	text = []byte{2, 0, 0, 0, 1, 0, 0, 4, 3, 2, 1, 0, 0, 0, 64, 0, 0, 0, 0, 0, 0, 0, 0, 0, 0, 0, 0, 0, 0}
	reads(t, f, blockSize+entrySize, crc.Seal(text))
	save(t, k, rec(1, 0, 15, 0, 1), api.OK)
	text = []byte{3, 0, 0, 0, 1, 1, 15, 0, 0, 0, 0, 1, 0, 0, 0, 0, 0, 0, 0, 0, 0, 0, 0, 0, 0, 0, 0, 0, 0}
	reads(t, f, blockSize+2*entrySize, crc.Seal(text))
	wears(t, f, 0, 0, 0, 0)
	tells(t, opened(t, f, 1), 3, rec(1, 0, 15, 0, 1))
	tells(t, opened(t, f, 0), 3, rec(1, 0, 15, 0, 1))
	tells(t, opened(t, f, 2), 0, zero)
}

// P9.3: entries stand one behind the other; when a block is full, the other one is erased, and they go on there.
func TestBlocksTakeTurns(t *testing.T) {
	f := made(t, 4, 10)
	program(t, f, 2*blockSize+900, []byte{0}) // what lies in the other block is gone, when it is erased
	k := opened(t, f, 1)
	for i := range 5 * inBlock {
		generation := i + 1
		save(t, k, nth(generation), api.OK)
		tells(t, k, generation, nth(generation))
		turn := i / inBlock
		at := (1+turn%2)*blockSize + i%inBlock*entrySize
		reads(t, f, at, entry(generation, nth(generation)))
		wears(t, f, 0, turn/2, (turn+1)/2, 0)
		if i%inBlock < inBlock-1 {
			reads(t, f, at+entrySize, bytes.Repeat([]byte{255}, (inBlock-1-i%inBlock)*entrySize))
		}
		tells(t, opened(t, f, 1), generation, nth(generation))
		if i%7 == 0 {
			k = opened(t, f, 1)
		}
	}
}

// P9.3: a place at which one bit is cleared is passed by; one ahead of the last entry is not come back to.
func TestPlacesPassedBy(t *testing.T) {
	for bit := range entrySize * 8 {
		f := made(t, 2, 1)
		spoilt := bytes.Repeat([]byte{255}, entrySize)
		spoilt[bit/8] ^= 1 << (bit % 8)
		program(t, f, 3*entrySize, entry(9, nth(9)))
		program(t, f, 4*entrySize, spoilt)
		program(t, f, 5*entrySize, spoilt)
		k := opened(t, f, 0)
		tells(t, k, 9, nth(9))
		save(t, k, nth(10), api.OK)
		reads(t, f, 6*entrySize, entry(10, nth(10)))
		program(t, f, 8*entrySize, spoilt)
		save(t, k, nth(11), api.OK)
		reads(t, f, 7*entrySize, entry(11, nth(11)))
		save(t, k, nth(12), api.OK)
		reads(t, f, 9*entrySize, entry(12, nth(12)))
		reads(t, f, 0, bytes.Repeat([]byte{255}, 3*entrySize))
		wears(t, f, 0, 0)
	}
}

// P9.3: where the last entry stands was looked up, or put there, and is not asked of the flash again.
func TestErasedByOthers(t *testing.T) {
	f := made(t, 2, 9)
	k := opened(t, f, 0)
	for i := range 3 {
		save(t, k, nth(i), api.OK)
	}
	for i := 3; i < 6; i++ {
		if e := f.Erase(0); e != api.OK {
			t.Fatal(e)
		}
		tells(t, k, i, nth(i-1))
		save(t, k, nth(i), api.OK)
		reads(t, f, 0, bytes.Repeat([]byte{255}, i*entrySize))
		reads(t, f, i*entrySize, entry(i+1, nth(i)))
	}
	tells(t, opened(t, f, 0), 6, nth(5))
}

// P9.3: where no entry is, the first block is gone on with, from its first place on, and left when it has none.
func TestNoEntryAndNoPlace(t *testing.T) {
	f := made(t, 2, 1)
	program(t, f, 0, []byte{0})
	save(t, opened(t, f, 0), nth(1), api.OK)
	reads(t, f, entrySize, entry(1, nth(1)))

	f = made(t, 2, 1)
	for i := range inBlock {
		program(t, f, i*entrySize+i, []byte{254})
	}
	before, _ := f.Read(0, blockSize)
	k := opened(t, f, 0)
	tells(t, k, 0, zero)
	save(t, k, nth(1), api.OK)
	reads(t, f, 0, before)
	reads(t, f, blockSize, entry(1, nth(1)))
	wears(t, f, 0, 1)
	tells(t, opened(t, f, 0), 1, nth(1))
}

// P9.3: the last place of a block is one, in both blocks.
func TestLastPlace(t *testing.T) {
	for block := range 2 {
		f := made(t, 2, 1)
		program(t, f, block*blockSize+30*entrySize, entry(5, nth(5)))
		k := opened(t, f, 0)
		save(t, k, nth(6), api.OK)
		reads(t, f, block*blockSize+31*entrySize, entry(6, nth(6)))
		wears(t, f, 0, 0)
		save(t, k, nth(7), api.OK)
		reads(t, f, (1-block)*blockSize, entry(7, nth(7)))
		wears(t, f, block, 1-block)
		tells(t, opened(t, f, 0), 7, nth(7))
	}
}

// P9.2: an entry with one bit turned, or with a byte of its own, is none.
func TestSpoiltEntry(t *testing.T) {
	b := entry(2, rec(0, 1, 3, 5, 6))
	for bit := range len(b) * 8 {
		spoilt := bytes.Clone(b)
		spoilt[bit/8] ^= 1 << (bit % 8)
		f := made(t, 2, 1)
		program(t, f, 0, entry(1, nth(1)))
		program(t, f, entrySize, spoilt)
		k := opened(t, f, 0)
		tells(t, k, 1, nth(1))
		save(t, k, nth(2), api.OK)
		reads(t, f, 2*entrySize, entry(2, nth(2)))
	}
}

// P9.2: a well sealed entry whose numbers may not be is none, and those at the edges are some.
func TestEntriesAtTheEdges(t *testing.T) {
	is := func(b []byte, generation int, want api.Boot) {
		t.Helper()
		f := made(t, 2, 1)
		program(t, f, blockSize+entrySize, b)
		tells(t, opened(t, f, 0), generation, want)
	}
	isNone := func(b []byte) {
		t.Helper()
		is(b, 0, zero)
	}
	good := rec(1, 0, 7, 8, 9)
	for _, generation := range []int{1, 255, 256, 1 << 24, maxNumber - 1, maxNumber} {
		is(entry(generation, good), generation, good)
	}
	for _, generation := range []int{0, maxNumber + 1, 1 << 31, 1<<32 - 1} {
		isNone(entry(generation, good))
	}
	for _, b := range []api.Boot{rec(0, -1, 0, 0, 0), rec(1, -1, 0, 0, 0), rec(0, 1, 15, maxNumber, 0), rec(1, 0, 0, 0, maxNumber)} {
		is(entry(1, b), 1, b)
	}
	for _, b := range []api.Boot{
		rec(2, -1, 0, 1, 1), rec(2, 1, 0, 1, 1), rec(255, -1, 0, 1, 1), rec(0, 0, 0, 1, 1), rec(1, 1, 0, 1, 1), rec(0, 2, 0, 1, 1), rec(0, 254, 0, 1, 1),
		rec(0, -1, 1, 1, 1), rec(0, 1, 16, 1, 1), rec(0, 1, 255, 1, 1), rec(0, 1, 0, maxNumber+1, 1), rec(0, 1, 0, 1, maxNumber+1), rec(0, 1, 0, 1<<31, 1), rec(0, 1, 0, 1, 1<<32-1),
	} {
		isNone(entry(1, b))
	}
	for i := range 14 {
		for _, x := range []byte{1, 128, 255} {
			b := numbers(1, good)
			b[15+i] = x
			isNone(crc.Seal(b))
		}
	}
	isNone(make([]byte, entrySize))
}

// P9.2: an entry that does not stand at one of the places, or not in the two blocks, is none.
func TestEntryAside(t *testing.T) {
	for shift := 1; shift < entrySize; shift++ {
		f := made(t, 2, 1)
		program(t, f, 5*entrySize+shift, entry(3, nth(3)))
		tells(t, opened(t, f, 0), 0, zero)
	}
	f := made(t, 4, 1)
	program(t, f, 31*entrySize, entry(3, nth(3)))
	program(t, f, 3*blockSize, entry(4, nth(4)))
	tells(t, opened(t, f, 1), 0, zero)
	tells(t, opened(t, f, 0), 3, nth(3))
	tells(t, opened(t, f, 2), 4, nth(4))
}

// P9.2: the greatest generation counts, wherever it stands; of two the first one, by blocks, then places.
func TestWhichEntryCounts(t *testing.T) {
	spots := []int{0, 1, 7, 31, 32, 33, 62, 63}
	for _, p := range spots {
		for _, q := range spots {
			if p == q {
				continue
			}
			f := made(t, 2, 9)
			program(t, f, p*entrySize, entry(300, nth(1)))
			program(t, f, q*entrySize, entry(299, nth(2)))
			k := opened(t, f, 0)
			tells(t, k, 300, nth(1))
			save(t, k, nth(3), api.OK)
			want := p + 1
			for want == q {
				want++
			}
			if want/inBlock != p/inBlock {
				want = (1 - p/inBlock) * inBlock
			}
			reads(t, f, want*entrySize, entry(301, nth(3)))

			f = made(t, 2, 9)
			program(t, f, p*entrySize, entry(300, nth(p)))
			program(t, f, q*entrySize, entry(300, nth(q)))
			tells(t, opened(t, f, 0), 300, nth(min(p, q)))
		}
	}
}

// P9.3: of the last generation there is one Save, and none behind it; a wrong record is told ahead of that, and neither breaks the keeper.
func TestFull(t *testing.T) {
	f := made(t, 2, 1)
	program(t, f, 0, entry(maxNumber-1, nth(1)))
	k := opened(t, f, 0)
	save(t, k, nth(2), api.OK)
	tells(t, k, maxNumber, nth(2))
	cells, erased := whole(t, f)
	for _, k := range []*boot.Keeper{k, opened(t, f, 0)} {
		for range 2 {
			save(t, k, nth(3), api.ErrFull)
			save(t, k, api.Boot{}, api.ErrArg)
			tells(t, k, maxNumber, nth(2))
		}
	}
	reads(t, f, 0, cells)
	wears(t, f, erased...)
	f.Arm(0, 0)
	f.Program(0, nil)
	save(t, k, nth(3), api.ErrFull)
}

// P9.3: a record that may not be changes nothing, and breaks nothing; it is told ahead of the power.
func TestSaveWrongly(t *testing.T) {
	f := made(t, 2, 1)
	k := opened(t, f, 0)
	save(t, k, nth(1), api.OK)
	cells, erased := whole(t, f)
	wrong := []api.Boot{{}, rec(2, -1, 0, 1, 1), rec(-1, -1, 0, 1, 1), rec(0, 0, 0, 1, 1), rec(0, -2, 0, 1, 1), rec(0, 2, 0, 1, 1), rec(0, 1, -1, 1, 1), rec(0, 1, 16, 1, 1),
		rec(0, -1, 1, 1, 1), rec(0, 1, 1, -1, 1), rec(0, 1, 1, 1, -1), rec(0, 1, 1, maxNumber+1, 1), rec(0, 1, 1, 1, maxNumber+1), rec(math.MinInt, math.MaxInt, 0, 0, 0)}
	for _, b := range wrong {
		save(t, k, b, api.ErrArg)
		tells(t, k, 1, nth(1))
	}
	reads(t, f, 0, cells)
	wears(t, f, erased...)
	f.Arm(0, 0)
	f.Program(0, nil)
	save(t, k, wrong[0], api.ErrArg)
	f.Power()
	save(t, k, nth(2), api.OK)
	tells(t, k, 2, nth(2))
}

// P9.3: where the power goes, or is off, the answer is ErrOff; from then on it is ErrBroken, also with the power, and of a wrong record.
func TestBroken(t *testing.T) {
	ways := map[string]func(*flash.Flash){
		"in the Program": func(f *flash.Flash) { f.Arm(0, 9) },
		"behind it":      func(f *flash.Flash) { f.Arm(0, entrySize) },
		"ahead": func(f *flash.Flash) {
			f.Arm(0, 0)
			f.Program(0, nil)
		},
	}
	for way, goes := range ways {
		f := made(t, 2, 1)
		k := opened(t, f, 0)
		save(t, k, nth(1), api.OK)
		goes(f)
		save(t, k, nth(2), api.ErrOff)
		for range 2 {
			save(t, k, nth(2), api.ErrBroken)
			save(t, k, api.Boot{}, api.ErrBroken)
			tells(t, k, 1, nth(1))
			f.Power()
		}
		cells, _ := whole(t, f)
		save(t, k, nth(2), api.ErrBroken)
		reads(t, f, 0, cells)
		k = opened(t, f, 0)
		if way == "behind it" {
			tells(t, k, 2, nth(2))
		} else {
			tells(t, k, 1, nth(1))
		}
		save(t, k, nth(3), api.OK)
		tells(t, opened(t, f, 0), k.Generation(), nth(3))
	}
}

// P9.3: a block that is worn out is told, breaks the keeper, and nothing is lost.
func TestWorn(t *testing.T) {
	f := made(t, 2, 2)
	k := opened(t, f, 0)
	const most = 5 * inBlock // each block is erased twice
	for i := range most {
		save(t, k, nth(i), api.OK)
	}
	cells, erased := whole(t, f)
	for range 3 {
		save(t, k, nth(most), api.ErrWorn)
		save(t, k, nth(most), api.ErrBroken)
		tells(t, k, most, nth(most-1))
		reads(t, f, 0, cells)
		wears(t, f, erased...)
		k = opened(t, f, 0)
		tells(t, k, most, nth(most-1))
	}
}

// R4, R6: keepers of other flashes, and of other blocks of one, know nothing of each other.
func TestKeepersApart(t *testing.T) {
	f, g := made(t, 5, 9), made(t, 2, 9)
	a, b, c := opened(t, f, 0), opened(t, f, 3), opened(t, g, 0)
	for i := range 3 * inBlock {
		save(t, a, nth(i), api.OK)
		if i%2 == 0 {
			save(t, b, nth(i+1), api.OK)
		}
		if i%3 == 0 {
			save(t, c, nth(i+2), api.OK)
		}
	}
	for range 2 {
		tells(t, a, 96, nth(95))
		tells(t, b, 48, nth(95))
		tells(t, c, 32, nth(95))
		a, b, c = opened(t, f, 0), opened(t, f, 3), opened(t, g, 0)
	}
	wears(t, f, 1, 1, 0, 0, 1)
	wears(t, g, 0, 0)
	reads(t, f, 2*blockSize, bytes.Repeat([]byte{255}, blockSize))
}

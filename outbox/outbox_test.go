package outbox_test

import (
	"bytes"
	"math"
	"slices"
	"testing"

	"pennant/api"
	"pennant/crc"
	"pennant/flash"
	"pennant/outbox"
)

const (
	blockSize = 1024
	entrySize = 32
	inBlock   = 32 // entries
	maxNumber = 1 << 30
)

// rep is a report.
func rep(campaign, lease, version, outcome int) api.Report {
	return api.Report{Campaign: campaign, Lease: lease, Version: version, Outcome: outcome}
}

// nth is the i-th of many reports, all unlike.
func nth(i int) api.Report { return rep(1+i, maxNumber-i, 1+3*i, 1+i%3) }

// queued is a report by its number.
func queued(seq int, r api.Report) api.Queued { return api.Queued{Seq: seq, Report: r} }

// run are the reports nth(from) to nth(to), each by the number that nth has.
func run(from, to int) []api.Queued {
	var l []api.Queued
	for i := from; i <= to; i++ {
		l = append(l, queued(i, nth(i)))
	}
	return l
}

// numbers are a number and a report as bytes, and noughts behind them.
func numbers(seq int, r api.Report) []byte {
	var l []byte
	for _, n := range []int{seq, r.Campaign, r.Lease, r.Version} {
		for range 4 {
			l = append(l, byte(n%256))
			n /= 256
		}
	}
	return append(append(l, byte(r.Outcome)), make([]byte, 11)...)
}

// entry is the 32 bytes of an entry, whether it may be or not.
func entry(seq int, r api.Report, end byte) []byte { return append(crc.Seal(numbers(seq, r)), end) }

// made is a new flash.
func made(t testing.TB, blocks, wear int) *flash.Flash {
	t.Helper()
	f, e := flash.New(blocks, wear)
	if e != api.OK {
		t.Fatalf("New(%d, %d): %d", blocks, wear, e)
	}
	return f
}

func program(t testing.TB, f *flash.Flash, at int, b []byte) {
	t.Helper()
	if e := f.Program(at, b); e != api.OK {
		t.Fatalf("Program(%d) of %d bytes: %d", at, len(b), e)
	}
}

// off lets a flash lose its power, and changes nothing else.
func off(f *flash.Flash) {
	f.Arm(0, 0)
	f.Program(0, nil)
}

func opened(t testing.TB, f *flash.Flash, block int) *outbox.Box {
	t.Helper()
	b, e := outbox.Open(f, block)
	if e != api.OK || b == nil {
		t.Fatalf("Open(%d): %v, %d", block, b, e)
	}
	return b
}

// put is a Put that is OK, and whose number must be this.
func put(t testing.TB, b *outbox.Box, r api.Report, want int) {
	t.Helper()
	if n, e := b.Put(r); n != want || e != api.OK {
		t.Fatalf("Put(%v): %d, %d, not %d", r, n, e, want)
	}
}

// puts are the Puts of nth(from) to nth(to).
func puts(t testing.TB, b *outbox.Box, from, to int) {
	t.Helper()
	for i := from; i <= to; i++ {
		put(t, b, nth(i), i)
	}
}

// refuses is a Put with an error.
func refuses(t testing.TB, b *outbox.Box, r api.Report, want api.Errno) {
	t.Helper()
	if n, e := b.Put(r); n != 0 || e != want {
		t.Fatalf("Put(%v): %d, %d, not 0, %d", r, n, e, want)
	}
}

func ack(t testing.TB, b *outbox.Box, seq int, want api.Errno) {
	t.Helper()
	if e := b.Ack(seq); e != want {
		t.Fatalf("Ack(%d): %d, not %d", seq, e, want)
	}
}

// acks are the Acks of the numbers from to to.
func acks(t testing.TB, b *outbox.Box, from, to int) {
	t.Helper()
	for i := from; i <= to; i++ {
		ack(t, b, i, api.OK)
	}
}

// tells fails if a box has not this.
func tells(t testing.TB, b *outbox.Box, last int, want []api.Queued) {
	t.Helper()
	if got := b.Pending(); b.Last() != last || !slices.Equal(got, want) {
		t.Fatalf("Last %d, waiting %v, not %d, %v", b.Last(), got, last, want)
	}
}

// reads fails if the bytes from at on are not these.
func reads(t testing.TB, f *flash.Flash, at int, want []byte) {
	t.Helper()
	if b, e := f.Read(at, len(want)); e != api.OK || !bytes.Equal(b, want) {
		t.Fatalf("Read(%d, %d): %x, %d, not %x", at, len(want), b, e, want)
	}
}

// whole is all that a flash holds, and how often each block was erased.
func whole(t testing.TB, f *flash.Flash) ([]byte, []int) {
	t.Helper()
	var l []byte
	var wears []int
	for k := range f.Len() {
		b, e := f.Read(k*blockSize, blockSize)
		n, w := f.Wear(k)
		if e != api.OK || w != api.OK {
			t.Fatalf("the block %d: %d, %d", k, e, w)
		}
		l, wears = append(l, b...), append(wears, n)
	}
	return l, wears
}

// wears fails if the blocks were not erased so often.
func wears(t testing.TB, f *flash.Flash, want ...int) {
	t.Helper()
	for k, n := range want {
		if got, e := f.Wear(k); e != api.OK || got != n {
			t.Fatalf("Wear(%d): %d, %d, not %d", k, got, e, n)
		}
	}
}

// still fails if what is done changes the flash.
func still(t testing.TB, f *flash.Flash, do func()) {
	t.Helper()
	cells, erased := whole(t, f)
	do()
	reads(t, f, 0, cells)
	wears(t, f, erased...)
}

// blank is bytes at which nothing was programmed.
func blank(n int) []byte { return bytes.Repeat([]byte{255}, n) }

// wrongReports are such that may not be.
func wrongReports() []api.Report {
	l := []api.Report{{}}
	for _, n := range []int{math.MinInt, -maxNumber, -1, 0, maxNumber + 1, 1 << 31, 1<<32 + 1, math.MaxInt} {
		l = append(l, rep(n, 1, 1, 1), rep(1, n, 1, 1), rep(1, 1, n, 1), rep(1, 1, 1, n))
	}
	return append(l, rep(1, 1, 1, 4), rep(1, 1, 1, 5), rep(1, 1, 1, 255), rep(1, 1, 1, 257), rep(1, 1, 1, maxNumber))
}

// P12.1: at all numbers about the edges those reports may be that the chapter tells.
func TestRight(t *testing.T) {
	edges := []int{math.MinInt, math.MinInt + 1, -256, -2, -1, 0, 1, 2, 3, 4, 5, 255, 256, 257, maxNumber - 1, maxNumber, maxNumber + 1, 1 << 32, 1<<32 + 1, math.MaxInt}
	may := []int{1, 2, 3, 4, 5, 255, 256, 257, maxNumber - 1, maxNumber}
	for _, campaign := range edges {
		for _, lease := range edges {
			for _, version := range edges {
				for _, outcome := range edges {
					want := slices.Contains(may, campaign) && slices.Contains(may, lease) && slices.Contains(may, version) && slices.Contains([]int{api.Committed, api.RolledBack, api.Refused}, outcome)
					if r := rep(campaign, lease, version, outcome); outbox.Right(r) != want {
						t.Fatalf("Right(%v): %t", r, !want)
					}
				}
			}
		}
	}
	for _, r := range wrongReports() {
		if outbox.Right(r) {
			t.Fatalf("Right(%v)", r)
		}
	}
}

// The chapter's example.
func TestByExample(t *testing.T) {
	f := made(t, 2, 1)
	b := opened(t, f, 0)
	puts(t, b, 1, 2)
	ack(t, b, 1, api.OK)
	tells(t, b, 2, run(2, 2))
	tells(t, opened(t, f, 0), 2, run(2, 2))
}

// P12.1: no flash, or not both blocks; ErrArg comes ahead of ErrOff.
func TestOpenWrongly(t *testing.T) {
	for _, block := range []int{math.MinInt, -1, 0, 1, math.MaxInt} {
		if b, e := outbox.Open(nil, block); e != api.ErrArg || b != nil {
			t.Fatalf("of no flash: %v, %d", b, e)
		}
	}
	for _, n := range []int{1, 2, 3, 256} {
		f := made(t, n, 1)
		for _, without := range []bool{false, true} {
			if without {
				off(f)
			}
			for _, block := range []int{math.MinInt, -2, -1, n - 1, n, n + 1, math.MaxInt - 1, math.MaxInt} {
				if b, e := outbox.Open(f, block); e != api.ErrArg || b != nil {
					t.Fatalf("the block %d of %d: %v, %d", block, n, b, e)
				}
			}
			for block := range n - 1 {
				b, e := outbox.Open(f, block)
				if without && (e != api.ErrOff || b != nil) || !without && (e != api.OK || b == nil) {
					t.Fatalf("the block %d of %d, off: %t: %v, %d", block, n, without, b, e)
				}
			}
		}
	}
}

// P12.1: of an empty flash there is nothing, and Open changes nothing.
func TestOpenEmpty(t *testing.T) {
	f := made(t, 3, 1)
	still(t, f, func() {
		for block := range 2 {
			b := opened(t, f, block)
			tells(t, b, 0, nil)
			ack(t, b, 0, api.ErrNone)
			ack(t, b, 1, api.ErrNone)
		}
	})
}

// P12.2: an entry is those 32 bytes, its last one is programmed by Ack alone, and nothing else is changed.
func TestEntryBytes(t *testing.T) {
	f := made(t, 4, 1)
	b := opened(t, f, 1)
	put(t, b, rep(0x01020304, 0x11121314, 0x21222324, api.RolledBack), 1)
	text := []byte{1, 0, 0, 0, 4, 3, 2, 1, 0x14, 0x13, 0x12, 0x11, 0x24, 0x23, 0x22, 0x21, 2, 0, 0, 0, 0, 0, 0, 0, 0, 0, 0, 0}
	first := append(crc.Seal(text), 255)
	reads(t, f, 0, blank(blockSize))
	reads(t, f, blockSize, first)
	reads(t, f, blockSize+entrySize, blank(3*blockSize-entrySize))
	put(t, b, rep(maxNumber, maxNumber, maxNumber, api.Refused), 2)
	text = []byte{2, 0, 0, 0, 0, 0, 0, 64, 0, 0, 0, 64, 0, 0, 0, 64, 3, 0, 0, 0, 0, 0, 0, 0, 0, 0, 0, 0}
	second := append(crc.Seal(text), 255)
	reads(t, f, blockSize, append(first, second...))
	put(t, b, rep(1, 1, 1, api.Committed), 3)
	text = []byte{3, 0, 0, 0, 1, 0, 0, 0, 1, 0, 0, 0, 1, 0, 0, 0, 1, 0, 0, 0, 0, 0, 0, 0, 0, 0, 0, 0}
	reads(t, f, blockSize+2*entrySize, append(crc.Seal(text), 255))
	ack(t, b, 2, api.OK)
	second[entrySize-1] = 0
	reads(t, f, 0, blank(blockSize))
	reads(t, f, blockSize, slices.Concat(first, second, crc.Seal(text), blank(1), blank(3*blockSize-3*entrySize)))
	wears(t, f, 0, 0, 0, 0)
	want := []api.Queued{queued(1, rep(0x01020304, 0x11121314, 0x21222324, api.RolledBack)), queued(3, rep(1, 1, 1, 1))}
	tells(t, b, 3, want)
	tells(t, opened(t, f, 1), 3, want)
	tells(t, opened(t, f, 0), 3, want)
	tells(t, opened(t, f, 2), 0, nil)
}

// P12.2: entries stand one behind the other; when a block is full, the other one is erased, and they go on there.
func TestBlocksTakeTurns(t *testing.T) {
	f := made(t, 4, 10)
	program(t, f, 2*blockSize+900, []byte{0}) // what lies in the other block is gone, when it is erased
	b := opened(t, f, 1)
	for i := range 5 * inBlock {
		seq, turn := i+1, i/inBlock
		put(t, b, nth(seq), seq)
		at := (1+turn%2)*blockSize + i%inBlock*entrySize
		reads(t, f, at, entry(seq, nth(seq), 255))
		wears(t, f, 0, turn/2, (turn+1)/2, 0)
		reads(t, f, at+entrySize, blank((inBlock-1-i%inBlock)*entrySize))
		tells(t, b, seq, run(max(1, seq-3), seq))
		tells(t, opened(t, f, 1), seq, run(max(1, seq-3), seq))
		if seq > 3 {
			ack(t, b, seq-3, api.OK)
		}
		if i%7 == 0 {
			b = opened(t, f, 1)
		}
		tells(t, b, seq, run(max(1, seq-2), seq))
	}
	reads(t, f, 0, blank(blockSize))
	reads(t, f, 3*blockSize, blank(blockSize))
}

// P12.2: the other block is erased, though nothing was programmed there.
func TestErasesEmptyBlock(t *testing.T) {
	f := made(t, 2, 1)
	b := opened(t, f, 0)
	puts(t, b, 1, inBlock)
	wears(t, f, 0, 0)
	puts(t, b, inBlock+1, inBlock+1)
	wears(t, f, 0, 1)
}

// P12.2: it is full, as long as one entry of the other block waits, whichever; an ErrFull changes and breaks nothing.
func TestFull(t *testing.T) {
	for left := 1; left <= inBlock; left++ {
		f := made(t, 2, 3)
		b := opened(t, f, 0)
		puts(t, b, 1, 2*inBlock)
		for range 2 {
			still(t, f, func() {
				refuses(t, b, nth(9), api.ErrFull)
				refuses(t, b, api.Report{}, api.ErrArg)
				tells(t, b, 2*inBlock, run(1, 2*inBlock))
			})
			b = opened(t, f, 0)
		}
		acks(t, b, 1, left-1)
		acks(t, b, left+1, inBlock)
		for range 2 {
			still(t, f, func() { refuses(t, b, nth(9), api.ErrFull) })
			tells(t, b, 2*inBlock, append(run(left, left), run(inBlock+1, 2*inBlock)...))
			b = opened(t, f, 0)
		}
		ack(t, b, left, api.OK)
		wears(t, f, 0, 1)
		puts(t, b, 2*inBlock+1, 3*inBlock)
		wears(t, f, 1, 1)
		tells(t, b, 3*inBlock, run(inBlock+1, 3*inBlock))
		tells(t, opened(t, f, 0), 3*inBlock, run(inBlock+1, 3*inBlock))
		refuses(t, b, nth(9), api.ErrFull)
	}
}

// P12.2: whether entries of the last entry's own block wait is all the same.
func TestOwnBlockMayWait(t *testing.T) {
	f := made(t, 2, 3)
	b := opened(t, f, 0)
	puts(t, b, 1, inBlock)
	tells(t, b, inBlock, run(1, inBlock))
	puts(t, b, inBlock+1, 2*inBlock)
	acks(t, b, 1, inBlock)
	puts(t, b, 2*inBlock+1, 2*inBlock+1)
	tells(t, b, 2*inBlock+1, run(inBlock+1, 2*inBlock+1))
}

// P12.2: what may not be a report is not put, ahead of ErrFull and of errors of the flash.
func TestPutWrongly(t *testing.T) {
	f, g := made(t, 2, 1), made(t, 2, 1)
	b := opened(t, f, 0)
	puts(t, b, 1, 3)
	program(t, g, 0, entry(maxNumber, nth(1), 255))
	full := opened(t, g, 0)
	for _, r := range wrongReports() {
		still(t, f, func() { refuses(t, b, r, api.ErrArg) })
		refuses(t, full, r, api.ErrArg)
		tells(t, b, 3, run(1, 3))
		off(f)
		refuses(t, b, r, api.ErrArg)
		f.Power()
	}
	puts(t, b, 4, 4)
}

// P12.2: the last number there may be.
func TestLastNumber(t *testing.T) {
	f := made(t, 2, 1)
	program(t, f, 0, entry(maxNumber-1, nth(1), 255))
	b := opened(t, f, 0)
	put(t, b, nth(2), maxNumber)
	for range 2 {
		tells(t, b, maxNumber, []api.Queued{queued(maxNumber-1, nth(1)), queued(maxNumber, nth(2))})
		still(t, f, func() { refuses(t, b, nth(3), api.ErrFull) })
		off(f)
		refuses(t, b, nth(3), api.ErrFull)
		f.Power()
		b = opened(t, f, 0)
	}
	ack(t, b, maxNumber, api.OK)
	refuses(t, b, nth(3), api.ErrFull)
	tells(t, b, maxNumber, []api.Queued{queued(maxNumber-1, nth(1))})
}

// P12.1: what is not whole, or of numbers that may not be, is no entry.
func TestNoEntry(t *testing.T) {
	good := entry(7, nth(7), 255)
	var bad [][]byte
	for bit := range 31 * 8 {
		b := slices.Clone(good)
		b[bit/8] ^= 1 << (bit % 8)
		bad = append(bad, b)
	}
	for n := range 31 {
		bad = append(bad, append(slices.Clone(good[:n]), blank(entrySize-n)...))
		bad = append(bad, append(blank(n+1), good[n+1:]...)) // erased so far
	}
	for _, seq := range []int{0, maxNumber + 1, 1<<31 - 1, 1 << 31, 1<<32 - 1} {
		bad = append(bad, entry(seq, nth(7), 255))
	}
	for _, n := range []int{0, maxNumber + 1, 1 << 31, 1<<32 - 1} {
		bad = append(bad, entry(7, rep(n, 1, 1, 1), 255), entry(7, rep(1, n, 1, 1), 255), entry(7, rep(1, 1, n, 1), 255))
	}
	for _, outcome := range []int{0, 4, 5, 128, 255} {
		bad = append(bad, entry(7, rep(1, 1, 1, outcome), 255))
	}
	for i := 17; i < 28; i++ {
		text := numbers(7, nth(7))
		text[i] = 1
		bad = append(bad, append(crc.Seal(text), 255))
	}
	bad = append(bad, append(make([]byte, 31), 255), crc.Seal(append(numbers(7, nth(7)), 0)), append([]byte{0}, good[:31]...))
	for _, b := range bad {
		for _, at := range []int{0, 5, inBlock, 2*inBlock - 1} {
			f := made(t, 2, 1)
			program(t, f, at*entrySize, b)
			tells(t, opened(t, f, 0), 0, nil)
		}
	}
	for at := range 2 * inBlock {
		f := made(t, 2, 1)
		program(t, f, at*entrySize, good)
		tells(t, opened(t, f, 0), 7, run(7, 7))
	}
}

// P12.1: entries stand at whole places of the two blocks alone.
func TestOtherPlaces(t *testing.T) {
	f := made(t, 4, 1)
	for _, at := range []int{0, 31 * entrySize, blockSize + 1, blockSize + 50, 2*blockSize - 16, 3*blockSize - 40, 3 * blockSize, 3*blockSize + 31*entrySize} {
		program(t, f, at, entry(7, nth(7), 255))
	}
	b := opened(t, f, 1)
	tells(t, b, 0, nil)
	ack(t, b, 7, api.ErrNone)
}

// P12.1: an entry waits, if its last byte is 255, and no other one; it counts for Last in any case.
func TestWaits(t *testing.T) {
	for end := range 256 {
		f := made(t, 2, 1)
		program(t, f, 3*entrySize, entry(4, nth(4), byte(end)))
		program(t, f, 4*entrySize, entry(2, nth(2), 255))
		b := opened(t, f, 0)
		if end == 255 {
			tells(t, b, 4, []api.Queued{queued(2, nth(2)), queued(4, nth(4))})
		} else {
			tells(t, b, 4, run(2, 2))
			ack(t, b, 4, api.ErrNone)
		}
		put(t, b, nth(5), 5)
		reads(t, f, 5*entrySize, entry(5, nth(5), 255))
		if end == 255 {
			ack(t, b, 4, api.OK)
			reads(t, f, 3*entrySize, entry(4, nth(4), 0))
		}
	}
}

// P12.2: it is gone on behind the last entry, though there are free places ahead of it; the other block is erased only when there is none behind it.
func TestBehindTheLast(t *testing.T) {
	for at := range 2 * inBlock {
		f := made(t, 2, 2)
		program(t, f, at*entrySize, entry(9, nth(9), 255))
		b := opened(t, f, 0)
		next := at + 1
		if next%inBlock == 0 {
			next = (next-1)/inBlock*inBlock ^ inBlock
		}
		put(t, b, nth(10), 10)
		reads(t, f, next*entrySize, entry(10, nth(10), 255))
		tells(t, b, 10, run(9, 10))
		cells, wear := whole(t, f)
		if n := wear[0] + wear[1]; (n == 1) != (at%inBlock == inBlock-1) || n > 1 {
			t.Fatalf("the last one at %d: erased %v", at, wear)
		}
		if n := 2*blockSize - bytes.Count(cells, []byte{255}); n > 2*entrySize {
			t.Fatalf("the last one at %d: %d bytes were programmed", at, n)
		}
	}
}

// P12.2: a place is free, if all its 32 bytes are 255, and that is asked of the flash when it is put.
func TestFreePlaces(t *testing.T) {
	for bit := range entrySize * 8 {
		for _, early := range []bool{true, false} {
			f := made(t, 2, 2)
			b := opened(t, f, 0)
			puts(t, b, 1, 4)
			spoil := blank(entrySize)
			spoil[bit/8] ^= 1 << (bit % 8)
			program(t, f, 4*entrySize, spoil)
			program(t, f, 6*entrySize, spoil)
			if early {
				b = opened(t, f, 0)
			}
			puts(t, b, 5, 6)
			reads(t, f, 4*entrySize, slices.Concat(spoil, entry(5, nth(5), 255), spoil, entry(6, nth(6), 255)))
			tells(t, b, 6, run(1, 6))
			tells(t, opened(t, f, 0), 6, run(1, 6))
		}
	}
}

// P12.2: where no entry is, and no place is free, it is gone on in the other block.
func TestNothingFree(t *testing.T) {
	f := made(t, 2, 2)
	program(t, f, 0, make([]byte, blockSize))
	program(t, f, blockSize+40, make([]byte, 100))
	b := opened(t, f, 0)
	tells(t, b, 0, nil)
	put(t, b, nth(1), 1)
	wears(t, f, 0, 1)
	reads(t, f, blockSize, entry(1, nth(1), 255))
	reads(t, f, blockSize+entrySize, blank(blockSize-entrySize))
	tells(t, opened(t, f, 0), 1, run(1, 1))
}

// P12.2: a place that lies free in the last entry's block is taken, though it lies behind some that are not.
func TestLastFreePlace(t *testing.T) {
	f := made(t, 2, 2)
	program(t, f, 0, make([]byte, blockSize-entrySize))
	b := opened(t, f, 0)
	put(t, b, nth(1), 1)
	wears(t, f, 0, 0)
	reads(t, f, blockSize-entrySize, entry(1, nth(1), 255))
	put(t, b, nth(2), 2)
	wears(t, f, 0, 1)
}

// P12.1, P12.2: several entries of one number are told as they stand, and taken one by one, the first one first; the last one is the first of them.
func TestTwins(t *testing.T) {
	f := made(t, 2, 2)
	for i, at := range []int{40, 33, 8, 3} { // reports unlike, by falling places
		program(t, f, at*entrySize, entry(6, nth(50+i), 255))
	}
	program(t, f, 1*entrySize, entry(6, nth(60), 0))
	program(t, f, 41*entrySize, entry(5, nth(61), 255))
	b := opened(t, f, 0)
	l := []api.Queued{queued(5, nth(61)), queued(6, nth(53)), queued(6, nth(52)), queued(6, nth(51)), queued(6, nth(50))}
	tells(t, b, 6, l)
	for i, at := range []int{3, 8, 33, 40} {
		ack(t, b, 6, api.OK)
		reads(t, f, at*entrySize, entry(6, nth(53-i), 0))
		tells(t, b, 6, append(slices.Clone(l[:1]), l[2+i:]...))
		tells(t, opened(t, f, 0), 6, append(slices.Clone(l[:1]), l[2+i:]...))
	}
	ack(t, b, 6, api.ErrNone)
	put(t, b, nth(7), 7)
	reads(t, f, 2*entrySize, entry(7, nth(7), 255)) // behind the first of the number 6
	put(t, b, nth(8), 8)
	reads(t, f, 4*entrySize, entry(8, nth(8), 255)) // the next one that is free
	tells(t, b, 8, []api.Queued{queued(5, nth(61)), queued(7, nth(7)), queued(8, nth(8))})
}

// P12.1: they are told by rising numbers, wherever they stand.
func TestPendingRises(t *testing.T) {
	f := made(t, 2, 2)
	for i := range 2 * inBlock {
		seq := 1 + i*37%64
		program(t, f, i*entrySize, entry(seq, nth(seq), 255))
	}
	b := opened(t, f, 0)
	tells(t, b, 64, run(1, 64))
	ack(t, b, 30, api.OK)
	tells(t, b, 64, append(run(1, 29), run(31, 64)...))
}

// P12.2: a number of which no entry waits is told, and changes and breaks nothing.
func TestAckWrongly(t *testing.T) {
	f := made(t, 2, 2)
	b := opened(t, f, 0)
	puts(t, b, 1, 3)
	ack(t, b, 2, api.OK)
	still(t, f, func() {
		for range 2 {
			for _, seq := range []int{math.MinInt, -1, 0, 2, 4, 5, maxNumber, maxNumber + 1, 1<<32 + 1, math.MaxInt} {
				ack(t, b, seq, api.ErrNone)
			}
			b = opened(t, f, 0)
		}
	})
	off(f)
	ack(t, b, 2, api.ErrNone)
	f.Power()
	tells(t, b, 3, []api.Queued{queued(1, nth(1)), queued(3, nth(3))})
	ack(t, b, 3, api.OK)
	ack(t, b, 1, api.OK)
	tells(t, b, 3, nil)
	puts(t, b, 4, 4)
	tells(t, opened(t, f, 0), 4, run(4, 4))
}

// P12.2: where the power goes, or is off, in a Put or an Ack, the answer is ErrOff; from then on it is ErrBroken, ahead of all else, also with the power.
func TestBroken(t *testing.T) {
	ways := map[string]func(*flash.Flash){
		"in the Program": func(f *flash.Flash) { f.Arm(0, 9) },
		"ahead of it":    func(f *flash.Flash) { f.Arm(0, 0) },
		"behind it":      func(f *flash.Flash) { f.Arm(0, entrySize) },
		"before":         off,
	}
	for way, goes := range ways {
		for _, takes := range []bool{false, true} {
			f := made(t, 2, 1)
			b := opened(t, f, 0)
			puts(t, b, 1, 2)
			goes(f)
			if takes {
				ack(t, b, 2, api.ErrOff)
			} else {
				refuses(t, b, nth(3), api.ErrOff)
			}
			for range 2 {
				refuses(t, b, nth(3), api.ErrBroken)
				refuses(t, b, api.Report{}, api.ErrBroken)
				ack(t, b, 1, api.ErrBroken)
				ack(t, b, 2, api.ErrBroken)
				ack(t, b, 3, api.ErrBroken)
				tells(t, b, 2, run(1, 2))
				f.Power()
			}
			still(t, f, func() {
				refuses(t, b, nth(3), api.ErrBroken)
				ack(t, b, 1, api.ErrBroken)
			})
			b = opened(t, f, 0)
			switch done := way == "behind it"; {
			case takes && (done || way == "in the Program"):
				tells(t, b, 2, run(1, 1))
			case done:
				tells(t, b, 3, run(1, 3))
			default:
				tells(t, b, 2, run(1, 2))
			}
			last := b.Last()
			put(t, b, nth(9), last+1)
			ack(t, b, 1, api.OK)
		}
	}
}

// P12.2: without power it is broken by what the flash is asked: a place that may be free, a block that is to be erased, a byte that is to be programmed; where nothing is asked of it, nothing is broken.
func TestOff(t *testing.T) {
	for _, n := range []int{0, 1, 30, 31, 32, 33, 63} {
		f := made(t, 2, 2)
		b := opened(t, f, 0)
		puts(t, b, 1, n)
		off(f)
		refuses(t, b, nth(n+1), api.ErrOff)
		f.Power()
		refuses(t, b, nth(n+1), api.ErrBroken)
		tells(t, b, n, run(1, n))
		wears(t, f, 0, n/33)
		b = opened(t, f, 0)
		puts(t, b, n+1, n+1)
	}
	f := made(t, 2, 2)
	b := opened(t, f, 0)
	puts(t, b, 1, 2*inBlock)
	off(f)
	refuses(t, b, nth(1), api.ErrFull) // no place is behind the last one, and the other block's wait
	f.Power()
	acks(t, b, 1, inBlock)
	puts(t, b, 2*inBlock+1, 2*inBlock+1)
}

// P12.2: a block that is worn out is told, breaks the box, and nothing is lost.
func TestWorn(t *testing.T) {
	f := made(t, 2, 2)
	b := opened(t, f, 0)
	const most = 5 * inBlock // each block is erased twice
	for i := 1; i <= most; i++ {
		puts(t, b, i, i)
		if i <= most-inBlock {
			ack(t, b, i, api.OK)
		}
	}
	for range 3 {
		still(t, f, func() {
			refuses(t, b, nth(9), api.ErrWorn)
			refuses(t, b, nth(9), api.ErrBroken)
			ack(t, b, most, api.ErrBroken)
			tells(t, b, most, run(most-inBlock+1, most))
		})
		b = opened(t, f, 0)
		tells(t, b, most, run(most-inBlock+1, most))
	}
	acks(t, b, most-inBlock+1, most)
	tells(t, b, most, nil)
}

// What there is was looked up at Open: a box goes by what it did itself, and asks the flash only for free places.
func TestByWhatItDid(t *testing.T) {
	f := made(t, 2, 5)
	a := opened(t, f, 0)
	puts(t, a, 1, 3)
	b := opened(t, f, 0)
	acks(t, a, 1, 2)
	puts(t, a, 4, 5)
	tells(t, b, 3, run(1, 3))
	ack(t, b, 4, api.ErrNone)
	ack(t, b, 1, api.OK)
	put(t, b, nth(70), 4) // its own last number, at a place that is free
	reads(t, f, 5*entrySize, entry(4, nth(70), 255))
	tells(t, b, 4, []api.Queued{queued(2, nth(2)), queued(3, nth(3)), queued(4, nth(70))})
	tells(t, a, 5, run(3, 5))
	tells(t, opened(t, f, 0), 5, []api.Queued{queued(3, nth(3)), queued(4, nth(4)), queued(4, nth(70)), queued(5, nth(5))})
	for k := range 2 {
		if e := f.Erase(k); e != api.OK {
			t.Fatal(e)
		}
	}
	tells(t, a, 5, run(3, 5))
	ack(t, a, 3, api.OK)
	tells(t, a, 5, run(4, 5))
	put(t, a, nth(6), 6)
	reads(t, f, 5*entrySize, entry(6, nth(6), 255)) // behind where its last one stood
	tells(t, opened(t, f, 0), 6, run(6, 6))
}

// What others put into the other block is not looked for, when that is erased.
func TestErasesByWhatItDid(t *testing.T) {
	f := made(t, 2, 5)
	b := opened(t, f, 0)
	puts(t, b, 1, inBlock)
	program(t, f, blockSize+9*entrySize, entry(99, nth(99), 255))
	puts(t, b, inBlock+1, inBlock+1)
	tells(t, opened(t, f, 0), inBlock+1, run(1, inBlock+1))

	f = made(t, 2, 5)
	b = opened(t, f, 0)
	puts(t, b, 1, 2*inBlock)
	acks(t, opened(t, f, 0), 1, inBlock)
	refuses(t, b, nth(1), api.ErrFull) // it did not take them
	acks(t, b, 1, inBlock)
	puts(t, b, 2*inBlock+1, 2*inBlock+1)
}

// R3: what is told is the caller's own.
func TestPendingIsOwn(t *testing.T) {
	f := made(t, 2, 5)
	b := opened(t, f, 0)
	puts(t, b, 1, 5)
	l, m := b.Pending(), b.Pending()
	for i := range l {
		l[i] = api.Queued{}
	}
	_ = append(l[:0], run(8, 9)...)
	tells(t, b, 5, run(1, 5))
	ack(t, b, 1, api.OK)
	puts(t, b, 6, 6)
	if !slices.Equal(m, run(1, 5)) {
		t.Fatalf("%v", m)
	}
	tells(t, b, 6, run(2, 6))
}

// R4, R6: boxes of other flashes, and of other blocks of one, know nothing of each other.
func TestBoxesApart(t *testing.T) {
	f, g := made(t, 5, 9), made(t, 2, 9)
	a, b, c := opened(t, f, 0), opened(t, f, 3), opened(t, g, 0)
	for i := 1; i <= 3*inBlock; i++ {
		puts(t, a, i, i)
		ack(t, a, i, api.OK)
		if i%2 == 0 {
			puts(t, b, i/2, i/2)
		}
		if i%3 == 0 {
			puts(t, c, i/3, i/3)
		}
	}
	for range 2 {
		tells(t, a, 96, nil)
		tells(t, b, 48, run(1, 48))
		tells(t, c, 32, run(1, 32))
		a, b, c = opened(t, f, 0), opened(t, f, 3), opened(t, g, 0)
	}
	wears(t, f, 1, 1, 0, 0, 1)
	wears(t, g, 0, 0)
	reads(t, f, 2*blockSize, blank(blockSize))
}

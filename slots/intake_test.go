package slots_test

import (
	"bytes"
	"math"
	"slices"
	"testing"

	"pennant/api"
	"pennant/boot"
	"pennant/flash"
	"pennant/slots"
)

// generation is how many records were saved in a flash.
func generation(t testing.TB, f *flash.Flash) int {
	t.Helper()
	k, e := boot.Open(f, 0)
	if e != api.OK {
		t.Fatal(e)
	}
	return k.Generation()
}

// P11.3: without a trial the active slot runs, and nothing is saved.
func TestBootWithoutTrial(t *testing.T) {
	f, s := formatted(t, 1)
	for _, most := range []int{math.MinInt, -1, 0, 1, 15, math.MaxInt} {
		boots(t, s, most, 0)
	}
	tried(t, s, filled(2, 70, 32))
	boots(t, s, 1, 1)
	is(t, "Commit", s.Commit(), api.OK)
	was := generation(t, f)
	for _, most := range []int{math.MinInt, 0, math.MaxInt} {
		boots(t, s, most, 1)
	}
	if generation(t, f) != was {
		t.Fatal("what is as it was, was saved")
	}
}

// P11.3: a trial is begun with so often, each time noted, by a device that is opened again or not, and then the active slot again.
func TestBootTries(t *testing.T) {
	for most := range 16 {
		for _, again := range []bool{false, true} {
			f, s := formatted(t, 1)
			tried(t, s, filled(2, 70, 32))
			was := generation(t, f)
			for i := range most {
				if again {
					s = opened(t, f, layout{0, 1})
				}
				boots(t, s, most, 1)
				record(t, s, rec(0, 1, i+1, 1, 2))
				record(t, opened(t, f, layout{0, 1}), rec(0, 1, i+1, 1, 2))
			}
			boots(t, s, most, 0)
			record(t, s, rec(0, -1, 0, 1, 2))
			boots(t, s, most, 0)
			if got := generation(t, f); got != was+most+1 {
				t.Fatalf("%d saves, not %d", got-was, most+1)
			}
		}
	}
}

// P11.3: behind 15 tries a record stays as it is, and is not saved.
func TestBootTriesEnd(t *testing.T) {
	f, s := formatted(t, 1)
	tried(t, s, filled(2, 70, 32))
	for range 15 {
		boots(t, s, 16, 1)
	}
	was := generation(t, f)
	for range 5 {
		boots(t, s, 16, 1)
		record(t, s, rec(0, 1, 15, 1, 2))
	}
	if generation(t, f) != was {
		t.Fatal("what is as it was, was saved")
	}
	boots(t, s, 15, 0)
}

// P11.3: when it cannot be saved, nothing runs, also nothing that ran ahead.
func TestBootFails(t *testing.T) {
	f, s := formatted(t, 1)
	boots(t, s, 3, 0)
	tried(t, s, filled(2, 70, 32))
	if s.Running() != 0 {
		t.Fatal(s.Running())
	}
	f.Arm(0, 5)
	for _, want := range []api.Errno{api.ErrOff, api.ErrBroken, api.ErrBroken} {
		if slot, e := s.Boot(3); slot != 0 || e != want || s.Running() != -1 {
			t.Fatal(slot, e, s.Running())
		}
		record(t, s, rec(0, 1, 0, 1, 2))
		is(t, "Commit", s.Commit(), api.ErrOrder)
		f.Power()
	}
	is(t, "Back", s.Back(), api.ErrBroken)
	s = opened(t, f, layout{0, 1})
	boots(t, s, 3, 1)
	record(t, s, rec(0, 1, 1, 1, 2))
	is(t, "Commit", s.Commit(), api.OK)
}

// P11.4: what may not be comes first, then what there is no room for, then a trial.
func TestBeginWrongly(t *testing.T) {
	f, s := formatted(t, 1)
	g, _ := formatted(t, 1)
	p := filled(2, 1024, 16)
	more := filled(3, 1025, 16)
	for _, m := range append(oddManifests(p.m), api.Manifest{}) {
		is(t, "Begin", s.Begin(m), api.ErrArg)
	}
	is(t, "Begin of too much", s.Begin(more.m), api.ErrFull)
	is(t, "Begin of the most", s.Begin(filled(3, 1<<15, 1024).m), api.ErrFull)
	alike(t, f, g)
	tried(t, s, p)
	tried(t, opened(t, g, layout{0, 1}), p)
	for _, m := range oddManifests(more.m) {
		is(t, "Begin", s.Begin(m), api.ErrArg)
	}
	is(t, "Begin of too much", s.Begin(more.m), api.ErrFull)
	is(t, "Begin of the trial", s.Begin(p.m), api.ErrOrder)
	is(t, "Begin of another", s.Begin(filled(3, 9, 16).m), api.ErrOrder)
	is(t, "Begin of the active", s.Begin(filled(1, 50, 32).m), api.ErrOrder)
	alike(t, f, g)
	is(t, "Back", s.Back(), api.OK)
	is(t, "Begin", s.Begin(filled(3, 9, 16).m), api.OK)
}

// P11.4: the header, then as many data blocks as the image needs, then the manifest, into the slot that is not active.
func TestBeginChanges(t *testing.T) {
	l := layout{1, 3}
	for _, size := range []int{1, 1023, 1024, 1025, 2048, 2049, 3072} {
		for active := range 2 {
			p := filled(9, size, 700)
			prepare := func() *flash.Flash {
				f := dirty(t, 12, 9)
				format(t, f, l, filled(1, 3000, 100))
				if active == 1 {
					s := opened(t, f, l)
					tried(t, s, filled(2, 2500, 64))
					boots(t, s, 1, 1)
					is(t, "Commit", s.Commit(), api.OK)
				}
				return f
			}
			call := func(f *flash.Flash) func() api.Errno {
				s := opened(t, f, l)
				return func() api.Errno { return s.Begin(p.m) }
			}
			target := 1 - active
			just(t, prepare, call, append(l.renew(target, size), change{l.header(target), headOf(p.m)}), api.OK)
		}
	}
}

// P11.4: what others programmed into the boot blocks is not looked up: the record has no trial, so it begins; opened again, there is one.
func TestBeginByRecord(t *testing.T) {
	l, p := layout{1, 1}, filled(2, 1, 16)
	entry := append([]byte{2, 0, 0, 0, 0, 2, 0, 1, 0, 0, 0, 2, 0, 0, 0}, make([]byte, 14)...)
	entry = append(entry, 0x87, 0xb4, 0xbb)
	f, g := made(t, 8, 5), made(t, 8, 5)
	format(t, f, l, filled(1, 100, 32))
	format(t, g, l, filled(1, 100, 32))
	s := opened(t, f, l)
	is(t, "Program", f.Program(1056, entry), api.OK)
	record(t, s, rec(0, -1, 0, 1, 0))
	is(t, "Begin", s.Begin(p.m), api.OK)
	begunWith(t, s, 1, p.m)
	missing(t, s, 0)

	changes := append([]change{{1056, entry}}, l.renew(1, 1)...)
	is(t, "the same by hand", do(g, append(changes, change{l.header(1), headOf(p.m)})), api.OK)
	alike(t, f, g)
	s = opened(t, f, l)
	record(t, s, rec(0, 1, 0, 1, 2))
	is(t, "Begin beside the trial", s.Begin(filled(3, 9, 16).m), api.ErrOrder)
}

// P11.4: with just that manifest it goes on; with one that is unlike in one thing it begins anew.
func TestBeginAgain(t *testing.T) {
	p := filled(2, 70, 32)
	f, s := formatted(t, 1)
	takeIn(t, s, p)
	before, worn := cells(t, f)
	for range 3 {
		is(t, "Begin again", s.Begin(p.m), api.OK)
		missing(t, s)
	}
	if after, wears := cells(t, f); !bytes.Equal(after, before) || !slices.Equal(wears, worn) {
		t.Fatal("the flash was changed")
	}
	others := []func(m *api.Manifest){
		func(m *api.Manifest) { m.Version++ },
		func(m *api.Manifest) { m.Size++ },
		func(m *api.Manifest) { m.Size-- },
		func(m *api.Manifest) { m.Chunk++ },
		func(m *api.Manifest) { m.Hash[31] ^= 1 },
		func(m *api.Manifest) { m.Sums[0] ^= 1 },
		func(m *api.Manifest) { m.Sums[2] ^= 1 << 23 },
	}
	for i, turn := range others {
		_, s := formatted(t, 1)
		takeIn(t, s, p)
		is(t, "Verify", s.Verify(), api.OK)
		m := p.m
		m.Sums = slices.Clone(m.Sums)
		turn(&m)
		is(t, "Begin", s.Begin(m), api.OK)
		if got, has := s.Manifest(1); !has || !same(got, m) {
			t.Fatal(i, got, has)
		}
		missing(t, s, 0, 1, 2)
		is(t, "Try", s.Try(), api.ErrOrder)
		is(t, "Verify", s.Verify(), api.ErrNone)
	}
}

// wearOut erases a block as often as it may be.
func wearOut(f *flash.Flash, block int) {
	for f.Erase(block) == api.OK {
	}
}

// P11.4: what cannot be erased is told, and what was erased ahead of it is gone.
func TestBeginWorn(t *testing.T) {
	f, s := formatted(t, 2)
	p := filled(2, 1500, 100)
	wearOut(f, 7)
	is(t, "Begin of one block", s.Begin(filled(3, 1024, 100).m), api.OK)
	missing(t, s, 0, 1, 2, 3, 4, 5, 6, 7, 8, 9, 10)
	is(t, "Begin of two blocks", s.Begin(p.m), api.ErrWorn)
	empty(t, s, 1)
	missing(t, s)
	is(t, "Put", s.Put(0, p.b[:100]), api.ErrOrder)
	boots(t, s, 3, 0)
	holds(t, s, 0, filled(1, 50, 32))

	f, s = formatted(t, 2)
	takeIn(t, s, p)
	is(t, "Verify", s.Verify(), api.OK)
	wearOut(f, 5)
	program(t, f, 5*blockSize, headOf(p.m))
	before, _ := cells(t, f)
	is(t, "Begin with a header that is worn out", s.Begin(filled(3, 1024, 100).m), api.ErrWorn)
	if after, _ := cells(t, f); !bytes.Equal(after, before) {
		t.Fatal("the flash was changed")
	}
	holds(t, s, 0, filled(1, 50, 32))
}

// P11.4: chunks in any order; Missing rises.
func TestPut(t *testing.T) {
	f, s := formatted(t, 2)
	p := filled(2, 2000, 300)
	is(t, "Put ahead of Begin", s.Put(0, p.b[:300]), api.ErrOrder)
	is(t, "Begin", s.Begin(p.m), api.OK)
	missing(t, s, 0, 1, 2, 3, 4, 5, 6)
	for n, want := range [][]int{{0, 1, 2, 4, 5, 6}, {0, 1, 2, 4, 5}, {1, 2, 4, 5}, {1, 2, 4}, {2, 4}, {2}, {}} {
		i := []int{3, 6, 0, 5, 1, 4, 2}[n]
		is(t, "Put", s.Put(i, p.chunks()[i]), api.OK)
		missing(t, s, want...)
		missing(t, opened(t, f, layout{0, 2}), want...)
		is(t, "Put again", s.Put(i, p.chunks()[i]), api.OK)
		missing(t, s, want...)
	}
	holds(t, s, 1, p)
	holds(t, s, 0, filled(1, 50, 32))
}

// P11.4: what is no chunk is ErrForm, and nothing is changed.
func TestPutWrongly(t *testing.T) {
	f, s := formatted(t, 1)
	p := filled(2, 70, 32)
	is(t, "Begin", s.Begin(p.m), api.OK)
	is(t, "Put", s.Put(1, p.b[32:64]), api.OK)
	before, _ := cells(t, f)
	for _, i := range []int{math.MinInt, -1, 0, 2, 3, 4, 128, math.MaxInt} {
		for _, b := range [][]byte{nil, {}, p.b[:31], p.b[:33], p.b[1:33], p.b[32:64], p.b[64:69], make([]byte, 6), p.b} {
			is(t, "Put", s.Put(i, b), api.ErrForm)
		}
	}
	for bit := range 32 * 8 {
		b := bytes.Clone(p.b[:32])
		b[bit/8] ^= 1 << (bit % 8)
		is(t, "Put of what is spoilt", s.Put(0, b), api.ErrForm)
		b = bytes.Clone(p.b[32:64])
		b[bit/8] ^= 1 << (bit % 8)
		is(t, "Put of what is spoilt, and there", s.Put(1, b), api.ErrForm)
	}
	if after, _ := cells(t, f); !bytes.Equal(after, before) {
		t.Fatal("the flash was changed")
	}
	missing(t, s, 0, 2)
}

// P11.4: a chunk that is there is not programmed again, not even another one of its sum.
func TestPutThere(t *testing.T) {
	f, s := formatted(t, 1)
	p := filled(2, 70, 32)
	takeIn(t, s, p)
	before, _ := cells(t, f)
	for i, b := range p.chunks() {
		is(t, "Put of a twin", s.Put(i, twin(b, 1)), api.OK)
	}
	if after, _ := cells(t, f); !bytes.Equal(after, before) {
		t.Fatal("the flash was changed")
	}
	is(t, "Verify", s.Verify(), api.OK)
	is(t, "Try", s.Try(), api.OK)
	is(t, "Put beside a trial", s.Put(0, p.b[:32]), api.ErrOrder)
	is(t, "Put of no chunk beside a trial", s.Put(9, nil), api.ErrOrder)
}

// P11.4: the data, then the byte that tells of it; chunks lie across the ends of blocks.
func TestPutChanges(t *testing.T) {
	l := layout{1, 3}
	p := filled(9, 3000, 700)
	for i, b := range p.chunks() {
		prepare := func() *flash.Flash {
			f := dirty(t, 11, 9)
			format(t, f, l, filled(1, 50, 32))
			is(t, "Begin", opened(t, f, l).Begin(p.m), api.OK)
			return f
		}
		call := func(f *flash.Flash) func() api.Errno {
			s := opened(t, f, l)
			return func() api.Errno { return s.Put(i, b) }
		}
		just(t, prepare, call, []change{{l.data(1) + 700*i, b}, l.mark(1, thereAt+i)}, api.OK)
	}
}

// P11.4: a chunk is there only if its byte is just 0.
func TestThere(t *testing.T) {
	p := filled(2, 40, 16)
	f, s := formatted(t, 1)
	is(t, "Begin", s.Begin(p.m), api.OK)
	program(t, f, layout{0, 1}.header(1)+thereAt-1, []byte{0, 1, 0, 128, 0})
	missing(t, s, 0, 2)
	program(t, f, layout{0, 1}.header(1)+thereAt, []byte{2})
	missing(t, s, 2)
	program(t, f, layout{0, 1}.header(1)+verifiedAt, []byte{64})
	is(t, "Put", s.Put(0, p.b[:16]), api.OK)
	is(t, "Put", s.Put(1, p.b[16:32]), api.OK)
	is(t, "Try", s.Try(), api.ErrOrder)
	is(t, "Put", s.Put(2, p.b[32:]), api.OK)
	is(t, "Try ahead of Verify", s.Try(), api.ErrOrder)
	is(t, "Verify of what was marked and never put", s.Verify(), api.ErrForm)
}

// P11.4: 128 chunks, of which each has its byte.
func TestMostChunks(t *testing.T) {
	f, s := formatted(t, 2)
	p := filled(2, 2048, 16)
	is(t, "Begin", s.Begin(p.m), api.OK)
	var left []int
	for i, b := range p.chunks() {
		if i%3 == 1 || i == 127 {
			is(t, "Put", s.Put(i, b), api.OK)
			if x, _ := f.Read((layout{0, 2}).header(1)+thereAt+i, 1); x[0] != 0 {
				t.Fatal(i)
			}
		} else {
			left = append(left, i)
		}
	}
	missing(t, s, left...)
	is(t, "Verify", s.Verify(), api.ErrNone)
}

// P11.5: not whole, though its chunks' sums are: the header is erased, and it is ErrForm.
func TestVerifyNotWhole(t *testing.T) {
	p := filled(2, 70, 32)
	l := layout{0, 1}
	prepare := func() *flash.Flash {
		f, s := formatted(t, 1)
		is(t, "Begin", s.Begin(p.m), api.OK)
		for i, b := range p.chunks() {
			if i == 1 {
				b = twin(b, 0)
			}
			is(t, "Put", s.Put(i, b), api.OK)
		}
		return f
	}
	call := func(f *flash.Flash) func() api.Errno { return opened(t, f, l).Verify }
	just(t, prepare, call, l.renew(1, 0), api.ErrForm)

	f := prepare()
	s := opened(t, f, l)
	is(t, "Verify", s.Verify(), api.ErrForm)
	empty(t, s, 1)
	missing(t, s)
	is(t, "Verify of nothing", s.Verify(), api.ErrOrder)
	is(t, "Try", s.Try(), api.ErrOrder)
	tried(t, s, p)
	boots(t, s, 1, 1)
	holds(t, s, 1, p)

	wearOut(f, l.header(1)/blockSize)
	s = opened(t, f, l)
	boots(t, s, 0, 0)
	program(t, f, l.header(1), headOf(p.m))
	program(t, f, l.data(1), make([]byte, 70))
	program(t, f, l.header(1)+thereAt, make([]byte, 3))
	is(t, "Verify of a header that cannot be erased", s.Verify(), api.ErrWorn)
	if m, has := s.Manifest(1); !has || !same(m, p.m) {
		t.Fatal(m, has)
	}
}

// P11.5: in its order: a trial or no manifest, a missing chunk, whether it is whole; the byte for that only once.
func TestVerify(t *testing.T) {
	p := filled(2, 1100, 500)
	l := layout{0, 2}
	f, s := formatted(t, 2)
	is(t, "Verify of nothing", s.Verify(), api.ErrOrder)
	is(t, "Begin", s.Begin(p.m), api.OK)
	for i, b := range p.chunks() {
		is(t, "Verify", s.Verify(), api.ErrNone)
		is(t, "Try", s.Try(), api.ErrOrder)
		is(t, "Put", s.Put(i, b), api.OK)
	}
	is(t, "Try", s.Try(), api.ErrOrder)
	is(t, "Verify", s.Verify(), api.OK)
	f.Arm(0, 0) // nothing is programmed any more
	is(t, "Verify again", s.Verify(), api.OK)
	f.Power()
	is(t, "Verify, opened again", opened(t, f, l).Verify(), api.OK)
	is(t, "Try", s.Try(), api.OK)
	is(t, "Verify beside a trial", s.Verify(), api.ErrOrder)
	boots(t, s, 1, 1)
	is(t, "Verify of what runs", s.Verify(), api.ErrOrder)
	is(t, "Commit", s.Commit(), api.OK)
	is(t, "Verify of the old one", s.Verify(), api.OK)

	prepare := func() *flash.Flash {
		f, s := formatted(t, 2)
		takeIn(t, s, p)
		return f
	}
	call := func(f *flash.Flash) func() api.Errno { return opened(t, f, l).Verify }
	just(t, prepare, call, []change{l.mark(1, verifiedAt)}, api.OK)
}

// P11.5: what was verified, and spoilt behind that, is not whole.
func TestVerifySpoilt(t *testing.T) {
	p := filled(2, 1100, 500)
	for _, at := range []int{0, 1, 499, 500, 1023, 1024, 1099} {
		f, s := formatted(t, 2)
		takeIn(t, s, p)
		is(t, "Verify", s.Verify(), api.OK)
		program(t, f, layout{0, 2}.data(1)+at, []byte{p.b[at] & (p.b[at] - 1)})
		want := api.ErrForm
		if p.b[at] == 0 {
			want = api.OK
		}
		is(t, "Verify", s.Verify(), want)
	}
	f, s := formatted(t, 2)
	takeIn(t, s, p)
	program(t, f, layout{0, 2}.data(1)+1100, []byte{0})
	is(t, "Verify, with a byte behind it", s.Verify(), api.OK)
}

// P11.5: Try notes the target and its version, and nothing else.
func TestTry(t *testing.T) {
	f, s := formatted(t, 1)
	p := filled(1<<30, 70, 32)
	is(t, "Try of nothing", s.Try(), api.ErrOrder)
	takeIn(t, s, p)
	is(t, "Verify", s.Verify(), api.OK)
	record(t, s, rec(0, -1, 0, 1, 0))
	is(t, "Try", s.Try(), api.OK)
	record(t, s, rec(0, 1, 0, 1, 1<<30))
	record(t, opened(t, f, layout{0, 1}), rec(0, 1, 0, 1, 1<<30))
	is(t, "Try again", s.Try(), api.ErrOrder)
	if s.Running() != -1 {
		t.Fatal(s.Running())
	}
	is(t, "Commit ahead of Boot", s.Commit(), api.ErrOrder)
	boots(t, s, 2, 1)
	is(t, "Commit", s.Commit(), api.OK)
	record(t, s, rec(1, -1, 0, 1, 1<<30))
	if s.Running() != 1 {
		t.Fatal(s.Running())
	}
	is(t, "Try of the old one", s.Try(), api.OK)
	record(t, s, rec(1, 0, 0, 1, 1<<30))
	is(t, "Commit of what does not run", s.Commit(), api.ErrOrder)
	boots(t, s, 2, 0)
	record(t, s, rec(1, 0, 1, 1, 1<<30))
	is(t, "Commit", s.Commit(), api.OK)
	record(t, s, rec(0, -1, 0, 1, 1<<30))
	is(t, "Commit again", s.Commit(), api.ErrOrder)
	holds(t, s, 0, filled(1, 50, 32))
	holds(t, s, 1, p)
}

// P11.5: a trial that was let be can be tried again, as it is verified.
func TestBack(t *testing.T) {
	f, s := formatted(t, 1)
	p := filled(2, 70, 32)
	is(t, "Back", s.Back(), api.ErrOrder)
	tried(t, s, p)
	is(t, "Back ahead of Boot", s.Back(), api.OK)
	record(t, s, rec(0, -1, 0, 1, 2))
	is(t, "Back again", s.Back(), api.ErrOrder)
	is(t, "Try", s.Try(), api.OK)
	boots(t, s, 5, 1)
	boots(t, s, 5, 1)
	is(t, "Back", s.Back(), api.OK)
	record(t, s, rec(0, -1, 0, 1, 2))
	record(t, opened(t, f, layout{0, 1}), rec(0, -1, 0, 1, 2))
	if s.Running() != 1 {
		t.Fatal(s.Running())
	}
	is(t, "Commit of what was let be", s.Commit(), api.ErrOrder)
	boots(t, s, 5, 0)
	is(t, "Begin", s.Begin(p.m), api.OK)
	missing(t, s)
	is(t, "Try", s.Try(), api.OK)
	record(t, s, rec(0, 1, 0, 1, 2))
	boots(t, s, 0, 0)
	record(t, s, rec(0, -1, 0, 1, 2))
}

// P11.5: the keeper's errors are the answer, and break it; what was noted is there when it is opened again.
func TestKeeperErrors(t *testing.T) {
	p := filled(2, 70, 32)
	for what := range 3 {
		for left := range 34 {
			f, s := formatted(t, 1)
			takeIn(t, s, p)
			is(t, "Verify", s.Verify(), api.OK)
			before, call, after := rec(0, -1, 0, 1, 0), s.Try, rec(0, 1, 0, 1, 2)
			if what > 0 {
				is(t, "Try", s.Try(), api.OK)
				boots(t, s, 3, 1)
				before = rec(0, 1, 1, 1, 2)
			}
			switch what {
			case 1:
				call, after = s.Commit, rec(1, -1, 0, 1, 2)
			case 2:
				call, after = s.Back, rec(0, -1, 0, 1, 2)
			}
			f.Arm(0, left)
			is(t, "with the power going", call(), api.ErrOff)
			record(t, s, before)
			f.Power()
			is(t, "behind that", call(), api.ErrBroken)
			record(t, s, before)
			want := before
			if left >= 32 {
				want = after
			}
			record(t, opened(t, f, layout{0, 1}), want)
		}
	}
}

// P11.5: a boot block that is worn out is told; what is in the slots stays.
func TestKeeperWorn(t *testing.T) {
	f := made(t, 6, 1)
	format(t, f, layout{0, 1}, filled(1, 50, 32))
	s := opened(t, f, layout{0, 1})
	p := filled(2, 70, 32)
	is(t, "Begin", s.Begin(p.m), api.ErrWorn) // Format erased that header once
	empty(t, s, 1)

	f, s = formatted(t, 1)
	takeIn(t, s, p)
	is(t, "Verify", s.Verify(), api.OK)
	wearOut(f, 1)
	for generation(t, f) < 31 {
		is(t, "Try", s.Try(), api.OK)
		is(t, "Back", s.Back(), api.OK)
	}
	is(t, "Try", s.Try(), api.OK)
	is(t, "Back", s.Back(), api.ErrWorn)
	is(t, "Back", s.Back(), api.ErrBroken)
	record(t, s, rec(0, 1, 0, 1, 2))
	record(t, opened(t, f, layout{0, 1}), rec(0, 1, 0, 1, 2))
	if slot, e := s.Boot(3); slot != 0 || e != api.ErrBroken {
		t.Fatal(slot, e)
	}
	if _, e := slots.Open(f, 0, 1); e != api.OK {
		t.Fatal(e)
	}
}

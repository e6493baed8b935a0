package outbox_test

import (
	"bytes"
	"math/rand"
	"slices"
	"testing"

	"pennant/api"
	"pennant/flash"
	"pennant/outbox"
)

// source is the same numbers in each run of the tests.
func source(seed int64) *rand.Rand { return rand.New(rand.NewSource(seed)) }

// slowSum is the check sum of 24 bits, bit by bit.
func slowSum(b []byte) []byte {
	s := uint64(0xB704CE)
	for _, x := range b {
		s ^= uint64(x) << 16
		for range 8 {
			s *= 2
			if s>>24 == 1 {
				s ^= 0x1864CFB
			}
		}
	}
	return []byte{byte(s >> 16), byte(s >> 8), byte(s)}
}

// found is an entry, which of the 64 places it stands at, and whether it waits.
type found struct {
	seq    int
	report api.Report
	at     int
	waits  bool
}

// slow is a second box, that keeps all entries there are, also those that wait no more, and looks the last one up among them at each call.
type slow struct {
	f      *flash.Flash
	block  int
	there  []found
	broken bool
}

// cell is the bytes of a place, read one by one; none without power.
func (s *slow) cell(at int) []byte {
	var l []byte
	for i := range entrySize {
		b, e := s.f.Read(s.block*blockSize+at*entrySize+i, 1)
		if e != api.OK {
			return nil
		}
		l = append(l, b...)
	}
	return l
}

// slowRight tells whether a report may be.
func slowRight(r api.Report) bool {
	for _, n := range []int{r.Campaign, r.Lease, r.Version} {
		if max(1, min(n, maxNumber)) != n {
			return false
		}
	}
	return r.Outcome == 1 || r.Outcome == 2 || r.Outcome == 3
}

// look is the entry at a place; it is one if its numbers, written again, are what stands there.
func (s *slow) look(at int) (found, bool) {
	b := s.cell(at)
	four := func(i int) int { return int(b[i]) + int(b[i+1])<<8 + int(b[i+2])<<16 + int(b[i+3])<<24 }
	x := found{seq: four(0), report: rep(four(4), four(8), four(12), int(b[16])), at: at, waits: b[31] == 255}
	text := numbers(x.seq, x.report)
	return x, bytes.Equal(b[:31], slices.Concat(text, slowSum(text))) && slowRight(x.report) && x.seq > 0 && x.seq <= maxNumber
}

// open is a slow box of what there is.
func open(f *flash.Flash, block int) *slow {
	s := &slow{f: f, block: block}
	for at := range 2 * inBlock {
		if x, is := s.look(at); is {
			s.there = append(s.there, x)
		}
	}
	return s
}

// last is the last entry; its number is 0, if there is none.
func (s *slow) last() found {
	last := found{at: -1}
	for _, x := range s.there {
		if x.seq > last.seq || x.seq == last.seq && x.at < last.at {
			last = x
		}
	}
	return last
}

// pending are the entries that wait: the least of those that are left, again and again.
func (s *slow) pending() []api.Queued {
	var l []api.Queued
	left := slices.Clone(s.there)
	for len(left) > 0 {
		least := 0
		for i, x := range left {
			if y := left[least]; x.seq < y.seq || x.seq == y.seq && x.at < y.at {
				least = i
			}
		}
		if left[least].waits {
			l = append(l, queued(left[least].seq, left[least].report))
		}
		left = slices.Delete(left, least, least+1)
	}
	return l
}

// half is which of the two blocks a place is of; ahead of all of them it is the first one.
func half(at int) int {
	if at < inBlock {
		return 0
	}
	return 1
}

// room is the place for the next entry, and what it takes to have it.
func (s *slow) room() (int, api.Errno) {
	last := s.last().at
	other := 1 - half(last)
	for at := last + 1; half(at) != other && at < 2*inBlock; at++ {
		b := s.cell(at)
		if b == nil {
			s.broken = true
			return 0, api.ErrOff
		}
		if bytes.Equal(b, blank(entrySize)) {
			return at, api.OK
		}
	}
	for _, x := range s.there {
		if x.waits && half(x.at) == other {
			return 0, api.ErrFull
		}
	}
	if e := s.f.Erase(s.block + other); e != api.OK {
		s.broken = true
		return 0, e
	}
	s.there = slices.DeleteFunc(s.there, func(x found) bool { return half(x.at) == other })
	return other * inBlock, api.OK
}

func (s *slow) put(r api.Report) (int, api.Errno) {
	last := s.last()
	switch {
	case s.broken:
		return 0, api.ErrBroken
	case !slowRight(r):
		return 0, api.ErrArg
	case last.seq == maxNumber:
		return 0, api.ErrFull
	}
	at, e := s.room()
	if e != api.OK {
		return 0, e
	}
	text := numbers(last.seq+1, r)
	if e := s.f.Program(s.block*blockSize+at*entrySize, slices.Concat(text, slowSum(text))); e != api.OK {
		s.broken = true
		return 0, e
	}
	s.there = append(s.there, found{seq: last.seq + 1, report: r, at: at, waits: true})
	return last.seq + 1, api.OK
}

func (s *slow) ack(seq int) api.Errno {
	if s.broken {
		return api.ErrBroken
	}
	first := -1
	for i, x := range s.there {
		if x.waits && x.seq == seq && (first < 0 || x.at < s.there[first].at) {
			first = i
		}
	}
	if first < 0 {
		return api.ErrNone
	}
	if e := s.f.Program(s.block*blockSize+s.there[first].at*entrySize+31, []byte{0}); e != api.OK {
		s.broken = true
		return e
	}
	s.there[first].waits = false
	return api.OK
}

// both is a box and a slow one, each on a flash of its own.
type both struct {
	f, g  *flash.Flash
	block int
	b     *outbox.Box
	s     *slow
}

func begin(t testing.TB, blocks, block, wear int) *both {
	t.Helper()
	x := &both{f: made(t, blocks, wear), g: made(t, blocks, wear), block: block}
	x.open(t)
	return x
}

func (x *both) open(t testing.TB) {
	t.Helper()
	x.b, x.s = opened(t, x.f, x.block), open(x.g, x.block)
	x.alike(t)
}

func (x *both) power() {
	x.f.Power()
	x.g.Power()
}

func (x *both) arm(changes, left int) {
	x.f.Arm(changes, left)
	x.g.Arm(changes, left)
}

func (x *both) program(at int, b []byte) {
	x.f.Program(at, b)
	x.g.Program(at, b)
}

func (x *both) put(t testing.TB, r api.Report) (int, api.Errno) {
	t.Helper()
	n, e := x.s.put(r)
	if e == api.OK {
		put(t, x.b, r, n)
	} else {
		refuses(t, x.b, r, e)
	}
	x.alike(t)
	return n, e
}

func (x *both) ack(t testing.TB, seq int) api.Errno {
	t.Helper()
	e := x.s.ack(seq)
	ack(t, x.b, seq, e)
	x.alike(t)
	return e
}

// alike fails if both part, in what they tell, or in their flashes.
func (x *both) alike(t testing.TB) {
	t.Helper()
	tells(t, x.b, x.s.last().seq, x.s.pending())
	if x.f.Off() != x.g.Off() {
		t.Fatalf("off: %t, not %t", x.f.Off(), x.g.Off())
	}
	if x.f.Off() {
		return
	}
	cells, erased := whole(t, x.g)
	got, _ := whole(t, x.f)
	if !bytes.Equal(got, cells) {
		t.Fatal("the flashes part")
	}
	wears(t, x.f, erased...)
}

// chanceReport is one that mostly may be.
func chanceReport(r *rand.Rand) api.Report {
	number := func() int {
		return []int{1, 1 + r.Intn(256), 1 + r.Intn(1<<16), maxNumber - 1, maxNumber, 1 + r.Intn(maxNumber)}[r.Intn(6)]
	}
	x := rep(number(), number(), number(), 1+r.Intn(3))
	if r.Intn(20) == 0 {
		odd := []int{-1, 0, maxNumber + 1, -maxNumber, 1 << 31, 4}[r.Intn(6)]
		*[]*int{&x.Campaign, &x.Lease, &x.Version, &x.Outcome}[r.Intn(4)] = odd
	}
	return x
}

// P12.1: Right by chance.
func TestRightByChance(t *testing.T) {
	r := source(120)
	for range 20000 {
		if x := chanceReport(r); outbox.Right(x) != slowRight(x) {
			t.Fatalf("Right(%v)", x)
		}
	}
}

// P12.1, P12.2: of two blocks of entries by chance, good and bad ones, of few numbers, there is the same, and it goes on alike.
func TestOpensByChance(t *testing.T) {
	r := source(121)
	for range 300 {
		x := begin(t, 2, 0, 3)
		most, gaps := 1+r.Intn(40), 1+r.Intn(8)
		for at := range 2 * inBlock {
			if r.Intn(gaps) == 0 {
				continue
			}
			b := entry(r.Intn(most), chanceReport(r), []byte{255, 0, 0, 0, byte(r.Intn(256))}[r.Intn(5)])
			switch r.Intn(8) {
			case 0:
				b[r.Intn(entrySize)] ^= 1 << r.Intn(8)
			case 1:
				b = append(b[:r.Intn(entrySize)], blank(entrySize)...)[:entrySize]
			}
			x.program(at*entrySize, b)
		}
		x.open(t)
		for range 30 {
			if r.Intn(3) == 0 {
				x.put(t, chanceReport(r))
			} else {
				x.ack(t, r.Intn(most+2))
			}
		}
	}
}

// theorem is what was put (OK) and not taken, what was taken, and what nobody knows: the report in whose Put, or the number in whose Ack, the power went.
type theorem struct {
	wait  []api.Queued
	maybe []api.Queued // put, or taken, while the power went
}

func (h *theorem) take(seq int) {
	h.wait = slices.DeleteFunc(h.wait, func(q api.Queued) bool { return q.Seq == seq })
}

// holds fails if what waits is not what must wait, and perhaps what may.
func (h *theorem) holds(t testing.TB, b *outbox.Box) {
	t.Helper()
	got := b.Pending()
	for _, q := range h.wait {
		if !slices.Contains(got, q) {
			t.Fatalf("%v is lost, of %v", q, got)
		}
	}
	for _, q := range got {
		if !slices.Contains(h.wait, q) && !slices.Contains(h.maybe, q) {
			t.Fatalf("%v waits, though it was taken, or never put", q)
		}
		if q.Seq > b.Last() {
			t.Fatalf("%v is beyond %d", q, b.Last())
		}
	}
	if !slices.IsSortedFunc(got, func(p, q api.Queued) int { return p.Seq - q.Seq }) {
		t.Fatalf("%v", got)
	}
	h.wait, h.maybe = got, nil
}

// step puts or takes by chance, and notes what must be from then on.
func (h *theorem) step(t testing.TB, x *both, r *rand.Rand) {
	t.Helper()
	if was := x.s.broken; r.Intn(2) == 0 || len(h.wait) == 0 {
		p := chanceReport(r)
		next := x.s.last().seq + 1
		switch n, e := x.put(t, p); {
		case e == api.OK:
			h.wait = append(h.wait, queued(n, p))
		case e == api.ErrOff && !was:
			h.maybe = append(h.maybe, queued(next, p))
		}
		return
	}
	was, q := x.s.broken, h.wait[r.Intn(len(h.wait))]
	if r.Intn(2) == 0 {
		q = h.wait[0] // the oldest one, so that blocks become free
	}
	switch e := x.ack(t, q.Seq); {
	case e == api.OK:
		h.take(q.Seq)
	case e == api.ErrOff && !was:
		h.take(q.Seq)
		h.maybe = append(h.maybe, q)
	}
}

// P12.2, P12.3: whatever is put and taken, whenever the power goes, and whatever others program into free places, a box tells what the slow one does, and the flash is alike byte by byte; opened again, what must wait does, and nothing else but what may.
func TestBoxesByChance(t *testing.T) {
	r := source(122)
	times := map[string]int{}
	for range 30 {
		blocks := 2 + r.Intn(3)
		x := begin(t, blocks, r.Intn(blocks-1), 1+r.Intn(12))
		h := &theorem{}
		for range 30 {
			if r.Intn(2) == 0 {
				x.arm(r.Intn(60), []int{r.Intn(entrySize + 2), r.Intn(blockSize + 2)}[r.Intn(2)]-1)
			}
			for range r.Intn(80) {
				h.step(t, x, r)
			}
			if x.f.Off() {
				times["off"]++
			}
			times["maybe"] += len(h.maybe)
			x.power()
			x.open(t)
			h.holds(t, x.b)
			if r.Intn(8) == 0 { // behind the last one, in its block, others may program
				last := x.s.last().at
				if at := last + 1 + r.Intn(inBlock); half(at) == half(last) && at < 2*inBlock {
					x.program(x.block*blockSize+at*entrySize, []byte{byte(r.Intn(255))})
					times["spoilt"]++
				}
				x.open(t)
				h.holds(t, x.b)
			}
		}
		for k := range blocks {
			n, _ := x.f.Wear(k)
			times["erased"] += n
		}
	}
	for _, what := range []string{"off", "maybe", "spoilt", "erased"} {
		if times[what] < 30 {
			t.Fatalf("%s: %d", what, times[what])
		}
	}
}

// prepared is a box with so many reports put, of which all but the last few are taken.
func prepared(t testing.TB, n int) (*flash.Flash, *outbox.Box, []api.Queued) {
	t.Helper()
	f := made(t, 2, 9)
	b := opened(t, f, 0)
	for i := 1; i <= n; i++ {
		puts(t, b, i, i)
		if i > 4 {
			ack(t, b, i-4, api.OK)
		}
	}
	return f, b, run(max(1, n-3), n)
}

// P12.3: the power goes at each byte of a Put: of its Program, and of its Erase. Opened again, all that waited does, perhaps the one that was just put, and it goes on.
func TestEachByteOfPut(t *testing.T) {
	for _, n := range []int{0, 1, 5, 31, 32, 33, 63, 64, 65, 96} {
		erases := n > 0 && n%inBlock == 0
		for change := range 2 {
			size := 31
			if change == 1 && !erases {
				break
			}
			if erases && change == 0 {
				size = blockSize
			}
			for left := range size + 1 {
				f, b, wait := prepared(t, n)
				f.Arm(change, left)
				refuses(t, b, nth(n+1), api.ErrOff)
				tells(t, b, n, wait)
				f.Power()
				b = opened(t, f, 0)
				if done := left == 31 && (change == 1 || !erases); done {
					wait = append(wait, queued(n+1, nth(n+1)))
				}
				last := n + len(wait) - len(run(max(1, n-3), n))
				tells(t, b, last, wait)
				for i := range 3 {
					put(t, b, nth(900+i), last+i+1)
					wait = append(wait, queued(last+i+1, nth(900+i)))
					tells(t, opened(t, f, 0), last+i+1, wait)
				}
			}
		}
	}
}

// P12.3: the power goes in an Ack: ahead of its byte nothing was done, behind it all.
func TestEachByteOfAck(t *testing.T) {
	for _, n := range []int{1, 4, 5, 32, 33, 35, 64, 66} {
		for _, seq := range []int{max(1, n-3), max(1, n-1), n} {
			for left := range 3 {
				f, b, wait := prepared(t, n)
				f.Arm(0, left)
				ack(t, b, seq, api.ErrOff)
				tells(t, b, n, wait)
				f.Power()
				b = opened(t, f, 0)
				if left > 0 {
					wait = slices.DeleteFunc(wait, func(q api.Queued) bool { return q.Seq == seq })
					ack(t, b, seq, api.ErrNone)
				}
				tells(t, b, n, wait)
				puts(t, b, n+1, n+1)
				tells(t, opened(t, f, 0), n+1, append(wait, run(n+1, n+1)...))
			}
		}
	}
}

// P12.3: the power goes again and again in the Erase of one Put behind the other; nothing that waits is lost, and none that was taken waits again.
func TestAgainAndAgain(t *testing.T) {
	r := source(123)
	for range 100 {
		n := inBlock * (1 + r.Intn(6))
		f, b, wait := prepared(t, n)
		for range 3 { // 9 in all may be erased
			f.Arm(r.Intn(2), r.Intn(blockSize+1))
			_, e := b.Put(nth(n + 1))
			f.Power()
			b = opened(t, f, 0)
			if e == api.OK || b.Last() == n+1 {
				wait = append(wait, run(n+1, n+1)...)
				tells(t, b, n+1, wait)
				break
			}
			tells(t, b, n, wait)
		}
		next := b.Last() + 1
		put(t, b, nth(77), next)
		tells(t, opened(t, f, 0), next, append(wait, queued(next, nth(77))))
	}
}

// FuzzOpen: whatever lies there, Open ends, and tells what the slow box does; it goes on behind it.
func FuzzOpen(f *testing.F) {
	f.Add(entry(1, nth(1), 255), entry(1, nth(2), 255), uint8(0), uint8(40))
	f.Add(slices.Concat(entry(1, nth(1), 0), entry(2, nth(2), 255)), entry(3, nth(3), 255), uint8(30), uint8(32))
	f.Add(entry(maxNumber, nth(1), 255), entry(maxNumber-1, nth(1), 255), uint8(9), uint8(9))
	f.Add([]byte{0}, numbers(1, nth(1)), uint8(9), uint8(9))
	f.Fuzz(func(t *testing.T, a, b []byte, p, q uint8) {
		x := begin(t, 2, 0, 2)
		x.program(int(p%64)*entrySize, a)
		x.program(int(q%64)*entrySize, b)
		x.open(t)
		for i := range 40 {
			x.put(t, nth(i))
			if i%3 > 0 {
				x.ack(t, x.s.last().seq-i%5)
			}
		}
	})
}

// FuzzBox: what is done is told by bytes, by two each.
func FuzzBox(f *testing.F) {
	f.Add([]byte{0, 1, 1, 40, 2, 3, 0, 9, 4, 0, 5, 1, 0, 7})
	f.Add([]byte{1, 255, 1, 33, 6, 64, 1, 3, 3, 2, 0, 0, 4, 0, 5, 9, 1, 70})
	f.Fuzz(func(t *testing.T, script []byte) {
		x := begin(t, 3, 1, 3)
		h := &theorem{}
		for ; len(script) >= 2; script = script[2:] {
			n := int(script[1])
			was, r := x.s.broken, rand.New(rand.NewSource(int64(n)))
			switch script[0] % 7 {
			case 0:
				h.step(t, x, r)
			case 1:
				for range n % 40 {
					h.step(t, x, r)
				}
			case 2:
				x.arm(n%3, n*5)
			case 3:
				x.arm(n%9, n%entrySize)
			case 4:
				x.power()
				x.open(t)
				h.holds(t, x.b)
			case 5:
				if at := x.s.last().at + 1; at%inBlock > 0 { // what others program there is no entry
					x.program(blockSize+at*entrySize+n%entrySize, []byte{byte(n)})
				}
			case 6:
				for _, q := range h.wait {
					if len(h.wait) > n%64 && !was && x.ack(t, q.Seq) == api.OK {
						h.wait = h.wait[1:]
					}
					if x.s.broken {
						h.maybe = append(h.maybe, h.wait...)
						h.wait = nil
						break
					}
				}
			}
		}
	})
}

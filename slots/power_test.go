package slots_test

import (
	"slices"
	"testing"

	"pennant/api"
	"pennant/flash"
	"pennant/slots"
)

// device is slots that are used as a device does: opened and begun with, then an image is taken in, tried, and kept, up to the first error.
type device struct {
	f    *flash.Flash
	l    layout
	old  image
	new  image
	puts []int // the chunks whose Put was OK
}

// rollOut goes on as far as it can.
func (d *device) rollOut(t testing.TB) api.Errno {
	s, e := slots.Open(d.f, d.l.first, d.l.n)
	if e != api.OK {
		return e
	}
	slot, e := s.Boot(3)
	if e != api.OK {
		return e
	}
	d.runs(t, s, slot)
	if s.Record().Trial == slot {
		return s.Commit()
	}
	if s.Record().Versions[slot] == d.new.m.Version {
		return api.OK
	}
	for _, step := range []func() api.Errno{
		func() api.Errno { return s.Begin(d.new.m) },
		func() api.Errno { return d.putMissing(t, s) },
		s.Verify,
		s.Try,
	} {
		if e := step(); e != api.OK {
			return e
		}
	}
	return api.OK
}

// putMissing puts chunks in, the last one first; none of those that were put in ahead is asked for again.
func (d *device) putMissing(t testing.TB, s *slots.Slots) api.Errno {
	l := s.Missing()
	if !slices.IsSorted(l) {
		t.Fatalf("missing: %v", l)
	}
	slices.Reverse(l)
	for _, i := range l {
		if slices.Contains(d.puts, i) {
			t.Fatalf("the chunk %d was put in, and is asked for again", i)
		}
		if e := s.Put(i, d.new.chunks()[i]); e != api.OK {
			return e
		}
		d.puts = append(d.puts, i)
	}
	return api.OK
}

// runs fails if what runs is not whole: the old image, or the new one.
func (d *device) runs(t testing.TB, s *slots.Slots, slot int) {
	t.Helper()
	p := d.old
	if s.Record().Versions[slot] == d.new.m.Version {
		p = d.new
	}
	holds(t, s, slot, p)
	if s.Record().Trial < 0 && slot != s.Record().Active {
		t.Fatalf("%d runs, and is not active: %v", slot, s.Record())
	}
}

// ends lets a device go on until the new image is kept.
func (d *device) ends(t testing.TB) {
	t.Helper()
	d.f.Power()
	for range 4 {
		is(t, "rolling out", d.rollOut(t), api.OK)
	}
	s := opened(t, d.f, d.l)
	b := s.Record()
	if b.Trial != -1 || b.Versions[b.Active] != d.new.m.Version {
		t.Fatalf("%v", b)
	}
	holds(t, s, b.Active, d.new)
}

// P11.6: the power goes in each change of a roll-out, at each byte of it (of those of an erased block at some); what the device begins with is whole, and it comes to its end.
func TestEachChange(t *testing.T) {
	l := layout{1, 2}
	for _, has := range []bool{false, true} {
		prepare := func() *device {
			f := dirty(t, 10, 20)
			d := &device{f: f, l: l, old: filled(1, 1300, 300), new: filled(2, 1100, 400)}
			format(t, f, l, d.old)
			if has { // an image that was verified lies in the target
				s := opened(t, f, l)
				tried(t, s, filled(9, 2000, 100))
				is(t, "Back", s.Back(), api.OK)
			}
			return d
		}
		for change := 0; ; change++ {
			done := false
			for _, left := range lefts() {
				d := prepare()
				d.f.Arm(change, left)
				for range 3 {
					d.rollOut(t)
				}
				done = !d.f.Off()
				d.ends(t)
				if done {
					break
				}
			}
			if done && change != 14 { // 3 erased, the manifest, 3 chunks with their bytes, verified, Try, Boot, Commit
				t.Fatalf("%d changes", change)
			}
			if done {
				break
			}
		}
	}
}

// lefts are how many bytes of a change are done: each number up to 64, and some to 1024.
func lefts() []int {
	var l []int
	for i := range 65 {
		l = append(l, i)
	}
	return append(l, 65, 66, 100, 399, 400, 799, 800, 801, 802, 803, 960, 961, 1023, 1024, 1025)
}

// P11.6: it goes again and again, also while it is being mended.
func TestAgainAndAgain(t *testing.T) {
	r := source(110)
	for range 300 {
		f := made(t, 8, 2000)
		d := &device{f: f, l: layout{0, 2}, old: filled(1, 1+r.Intn(2048), 64+r.Intn(961)), new: filled(2, 1+r.Intn(2048), 64+r.Intn(961))}
		format(t, f, d.l, d.old)
		for version := 2; version < 5; version++ {
			d.new, d.puts = filled(version, 1+r.Intn(2048), 64+r.Intn(961)), nil
			for range 1 + r.Intn(30) {
				f.Arm(r.Intn(8), []int{r.Intn(40), r.Intn(1030)}[r.Intn(2)])
				d.rollOut(t)
				f.Power()
			}
			d.ends(t)
			d.old = d.new
		}
	}
}

// P11.6: a device that was tried three times, and told nothing, goes back to a whole image.
func TestGoesBack(t *testing.T) {
	f, s := formatted(t, 1)
	tried(t, s, filled(2, 70, 32))
	for i := range 6 {
		s = opened(t, f, layout{0, 1})
		want := 0
		if i < 3 {
			want = 1
		}
		boots(t, s, 3, want)
	}
	holds(t, s, 0, filled(1, 50, 32))
}

// P11.4, P11.6: a Try in which the power went behind its last byte was done, as slots that are opened again tell; the record of those that are not knows nothing of it, and Begin goes by that.
func TestTryDoneUnknown(t *testing.T) {
	for left := range 40 {
		for _, again := range []bool{true, false} {
			f, s := formatted(t, 1)
			p, q := filled(2, 70, 32), filled(3, 80, 32)
			takeIn(t, s, p)
			is(t, "Verify", s.Verify(), api.OK)
			f.Arm(0, left)
			is(t, "Try", s.Try(), api.ErrOff)
			f.Power()
			want, done := api.OK, left >= 32
			if again {
				s = opened(t, f, layout{0, 1})
				if done {
					want = api.ErrOrder
				}
			}
			is(t, "Begin of the same", s.Begin(p.m), want)
			is(t, "Begin of another", s.Begin(q.m), want)
			if want == api.OK {
				begunWith(t, s, 1, q.m)
				missing(t, s, 0, 1, 2)
				continue
			}
			boots(t, s, 3, 1)
			holds(t, s, 1, p)
		}
	}
}

// P11.6: chunks of one sum, put in by halves, one over the other, are not whole, and never run.
func TestTwins(t *testing.T) {
	p := filled(2, 70, 32)
	b := p.chunks()[1]
	wrong, right := 0, 0
	for left := range 34 {
		for at := range 29 {
			f, s := formatted(t, 1)
			is(t, "Begin", s.Begin(p.m), api.OK)
			f.Arm(0, left)
			is(t, "Put of a twin", s.Put(1, twin(b, at)), api.ErrOff)
			f.Power()
			s = opened(t, f, layout{0, 1})
			missing(t, s, 0, 1, 2)
			takeIn(t, s, p)
			got, _ := s.Image(1)
			if isWhole(p.m, got) {
				right++
				is(t, "Verify", s.Verify(), api.OK)
				continue
			}
			wrong++
			is(t, "Verify", s.Verify(), api.ErrForm)
			is(t, "Try", s.Try(), api.ErrOrder)
			boots(t, s, 3, 0)
		}
	}
	if wrong < 100 || right < 100 {
		t.Fatal(wrong, right)
	}
}

// stock are images for both, of which the last one is too great for two blocks.
func stock() []image {
	return []image{filled(2, 700, 300), filled(3, 1024, 512), filled(4, 1500, 1000), filled(5, 40, 16), filled(1<<30, 2048, 700), filled(7, 2049, 1024)}
}

// P11.2 to P11.6: whatever is called, whenever the power goes, and whether it is opened again or not, slots answer and change what the slow ones do, and what a device would begin with is whole.
func TestByChance(t *testing.T) {
	r := source(111)
	count, all := map[string]int{}, stock()
	for range 200 {
		x := begun(t, layout{r.Intn(2), 2}, 9, 40, filled(1, 900, 200))
		for range 150 {
			p := all[r.Intn(6)]
			if r.Intn(3) > 0 {
				p = all[0]
			}
			chanceStep(t, x, r.Intn(24), r.Intn(100), p, count)
		}
	}
	for _, what := range []string{"begun", "verified", "tried", "booted", "committed", "back", "off"} {
		if count[what] < 50 {
			t.Fatalf("%v", count)
		}
	}
}

// chanceStep does one thing with both.
func chanceStep(t testing.TB, x *both, what, n int, p image, count map[string]int) {
	t.Helper()
	note := func(what string, e api.Errno) {
		if e == api.OK {
			count[what]++
		}
	}
	switch what {
	case 0, 1:
		note("begun", x.begin(t, p.m))
	case 2:
		m := p.m
		m.Version = n - 50
		x.begin(t, m)
	case 3, 4, 5:
		i := n % (len(p.chunks()) + 1)
		b := p.b
		if i < len(p.chunks()) {
			b = p.chunks()[i]
		}
		x.put(t, i, b)
	case 6, 7:
		x.putMissing(t, p)
	case 8:
		x.put(t, 0, twin(p.chunks()[0], n%13))
	case 9, 10, 11:
		note("verified", x.verify(t))
	case 12, 13:
		note("tried", x.try(t))
	case 14, 15:
		note("booted", x.boot(t, n%18))
	case 16, 17:
		note("committed", x.commit(t))
	case 18:
		note("back", x.back(t))
	case 19, 20:
		x.arm(n%7, n*n%1100)
	case 21:
		if x.f.Off() {
			count["off"]++
		}
		x.power()
		x.alike(t)
	default:
		x.power()
		x.open(t)
	}
	x.kept(t)
}

// FuzzOpen: whatever lies in the headers, slots tell what the slow ones do, and take in an image.
func FuzzOpen(f *testing.F) {
	p := filled(2, 70, 32)
	f.Add(headOf(p.m), headOf(p.m)[:20], uint16(800))
	f.Add(head(3, []byte{1, 2, 3}), make([]byte, 1000), uint16(900))
	f.Add(head(1017, make([]byte, 1017))[:1024], head(65535, nil), uint16(0))
	f.Fuzz(func(t *testing.T, a, b []byte, at uint16) {
		x := begun(t, layout{0, 1}, 6, 3, filled(1, 50, 32))
		x.program(4*blockSize, a[:min(len(a), blockSize)])
		x.alike(t)
		b = b[:min(len(b), blockSize)]
		x.program(4*blockSize+int(at)%(blockSize-len(b)+1), b)
		x.alike(t)
		m, has := x.s.Manifest(1)
		if has && x.verify(t) == api.OK && x.try(t) == api.OK {
			x.back(t)
		}
		if !has || !same(m, p.m) {
			x.begin(t, p.m)
			x.putMissing(t, p)
			x.verify(t)
		}
	})
}

// FuzzSlots: what is done is told by bytes, by three each.
func FuzzSlots(f *testing.F) {
	f.Add([]byte{0, 0, 0, 6, 0, 0, 9, 0, 0, 12, 0, 0, 14, 3, 0, 16, 0, 0, 0, 0, 2, 6, 0, 2})
	f.Add([]byte{19, 3, 0, 0, 0, 0, 6, 0, 0, 23, 0, 0, 0, 0, 0, 6, 0, 0, 8, 0, 0, 9, 0, 0, 12, 0, 0, 21, 0, 0, 0, 0, 1})
	f.Fuzz(func(t *testing.T, script []byte) {
		x, all := begun(t, layout{1, 2}, 9, 5, filled(1, 900, 200)), stock()
		for ; len(script) >= 3 && len(script) < 300; script = script[3:] {
			chanceStep(t, x, int(script[0])%24, int(script[1]), all[int(script[2])%6], map[string]int{})
		}
	})
}

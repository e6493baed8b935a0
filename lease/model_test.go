package lease_test

import (
	"math/rand"
	"slices"
	"testing"

	"pennant/api"
	"pennant/lease"
)

// source is the same numbers in each run of the tests.
func source(seed int64) *rand.Rand { return rand.New(rand.NewSource(seed)) }

// row is a lease, which keeps its last moment also when it has ended.
type row struct {
	device, last int
	ended        bool
}

// slow is a second table, that looks through all its rows for each answer.
type slow struct{ rows []row }

// among tells whether n is one of the numbers from least to most.
func among(n, least, most int) bool { return max(least, min(n, most)) == n }

// tell is the i-th row as a lease.
func (s *slow) tell(i int) api.Lease {
	r := s.rows[i]
	if r.ended {
		return leaseOf(i+1, r.device, 0)
	}
	return leaseOf(i+1, r.device, r.last)
}

func (s *slow) all() []api.Lease {
	var l []api.Lease
	for i := range s.rows {
		l = append(l, s.tell(i))
	}
	return l
}

// of is the open lease of a device.
func (s *slow) of(device int) (api.Lease, bool) {
	for i, r := range s.rows {
		if r.device == device && !r.ended {
			return s.tell(i), true
		}
	}
	return api.Lease{}, false
}

func (s *slow) at(number int) (api.Lease, api.Errno) {
	for i := range s.rows {
		if i+1 == number {
			return s.tell(i), api.OK
		}
	}
	return api.Lease{}, api.ErrNone
}

// isOpen tells whether there is an open lease of a number.
func (s *slow) isOpen(number int) bool {
	_, e := s.at(number)
	return e == api.OK && !s.rows[number-1].ended
}

func (s *slow) grant(device, now, life int) (api.Lease, api.Errno) {
	if !among(device, 1, maxDevice) || !among(now, 0, maxTime) || !among(life, 1, maxLife) {
		return api.Lease{}, api.ErrArg
	}
	if _, has := s.of(device); has {
		return api.Lease{}, api.ErrThere
	}
	if len(s.rows) >= maxLeases {
		return api.Lease{}, api.ErrFull
	}
	s.rows = append(s.rows, row{device: device, last: now + life})
	return s.tell(len(s.rows) - 1), api.OK
}

func (s *slow) renew(number, now, life int) (api.Lease, api.Errno) {
	if !among(now, 0, maxTime) || !among(life, 1, maxLife) {
		return api.Lease{}, api.ErrArg
	}
	if !s.isOpen(number) {
		return api.Lease{}, api.ErrNone
	}
	r := &s.rows[number-1]
	if r.last <= now {
		return api.Lease{}, api.ErrOrder
	}
	if r.last < now+life {
		r.last = now + life
	}
	return s.tell(number - 1), api.OK
}

func (s *slow) end(number int) api.Errno {
	if !s.isOpen(number) {
		return api.ErrNone
	}
	s.rows[number-1].ended = true
	return api.OK
}

func (s *slow) expire(now int) ([]api.Lease, api.Errno) {
	if !among(now, 0, maxTime) {
		return nil, api.ErrArg
	}
	var l []api.Lease
	for i := range s.rows {
		if r := &s.rows[i]; !r.ended && r.last <= now {
			l = append(l, s.tell(i))
			r.ended = true
		}
	}
	return l, api.OK
}

// slowLoad is a slow table of leases, and whether they may be.
func slowLoad(l []api.Lease) (*slow, bool) {
	s := &slow{}
	opens := map[int]int{}
	for _, x := range l {
		if !among(x.Device, 1, maxDevice) || !among(x.Until, 0, maxUntil) {
			return nil, false
		}
		if x.Until > 0 {
			opens[x.Device]++
		}
		s.rows = append(s.rows, row{device: x.Device, last: x.Until, ended: x.Until == 0})
	}
	for i, x := range l {
		if x.Number != i+1 || opens[x.Device] > 1 {
			return nil, false
		}
	}
	return s, len(l) <= maxLeases
}

// load holds a Load against the chapter, and tells both tables, if the leases may be.
func load(t testing.TB, l []api.Lease) (*lease.Table, *slow) {
	t.Helper()
	before := slices.Clone(l)
	x, e := lease.Load(l)
	if !slices.Equal(l, before) {
		t.Fatalf("Load(%v) changed what was handed in: %v", before, l)
	}
	s, may := slowLoad(before)
	if !may {
		if x != nil || e != api.ErrArg {
			t.Fatalf("Load(%v): %v, %d, not %d", before, x, e, api.ErrArg)
		}
		return nil, nil
	}
	if x == nil || e != api.OK {
		t.Fatalf("Load(%v): %v, %d", before, x, e)
	}
	if got := x.All(); !slices.Equal(got, before) {
		t.Fatalf("All of a table that was loaded: %v, not %v", got, before)
	}
	return x, s
}

// call is one of a table: which one, and its numbers.
type call struct {
	do      int
	a, b, c int
}

const (
	doGrant = iota
	doRenew
	doEnd
	doExpire
	doLoad // goes on with a table of all leases
	doKinds
)

// told is what a call told.
type told struct {
	list []api.Lease
	e    api.Errno
}

// one is what a call told that tells one lease; with an error that is of noughts.
func one(l api.Lease, e api.Errno) told { return told{[]api.Lease{l}, e} }

// on is what a call of a table tells.
func (c call) on(t testing.TB, x *lease.Table) (*lease.Table, told) {
	t.Helper()
	switch c.do {
	case doGrant:
		return x, one(x.Grant(c.a, c.b, c.c))
	case doRenew:
		return x, one(x.Renew(c.a, c.b, c.c))
	case doEnd:
		return x, told{nil, x.End(c.a)}
	case doExpire:
		l, e := x.Expire(c.a)
		return x, told{l, e}
	}
	y, _ := load(t, x.All())
	return y, told{}
}

// onSlow is what a call of a slow table must tell.
func (c call) onSlow(s *slow) told {
	switch c.do {
	case doGrant:
		return one(s.grant(c.a, c.b, c.c))
	case doRenew:
		return one(s.renew(c.a, c.b, c.c))
	case doEnd:
		return told{nil, s.end(c.a)}
	case doExpire:
		l, e := s.expire(c.a)
		return told{l, e}
	}
	return told{}
}

// both is a table, and the slow one beside it.
type both struct {
	t     testing.TB
	table *lease.Table
	slow  *slow
}

func begin(t testing.TB) *both { return &both{t, lease.New(), &slow{}} }

// does does a call on both, and holds what they tell against each other: its error.
func (b *both) does(c call) api.Errno {
	b.t.Helper()
	y, got := c.on(b.t, b.table)
	want := c.onSlow(b.slow)
	if got.e != want.e || !slices.Equal(got.list, want.list) {
		b.t.Fatalf("%v: %v, not %v", c, got, want)
	}
	b.table = y
	if c.do == doExpire && got.e == api.OK {
		for _, l := range b.table.All() {
			if l.Until != 0 && l.Until <= c.a {
				b.t.Fatalf("behind Expire(%d) there is %v", c.a, l)
			}
		}
	}
	return got.e
}

// of and at hold an answer of the table against the slow one's.
func (b *both) of(device int) {
	b.t.Helper()
	got, is := b.table.Of(device)
	if want, wis := b.slow.of(device); got != want || is != wis {
		b.t.Fatalf("Of(%d): %v, %v, not %v, %v", device, got, is, want, wis)
	}
}

func (b *both) at(number int) {
	b.t.Helper()
	got, e := b.table.At(number)
	if want, we := b.slow.at(number); got != want || e != we {
		b.t.Fatalf("At(%d): %v, %d, not %v, %d", number, got, e, want, we)
	}
}

// tells holds all that the table tells of these devices, and of all numbers, against the slow one.
func (b *both) tells(devices ...int) {
	b.t.Helper()
	all := b.table.All()
	if want := b.slow.all(); !slices.Equal(all, want) {
		b.t.Fatalf("All: %v, not %v", all, want)
	}
	opens := map[int]int{}
	for i, l := range all {
		b.at(l.Number)
		if l.Until > 0 {
			opens[l.Device]++
		}
		if l.Number != i+1 || opens[l.Device] > 1 {
			b.t.Fatalf("All: %v: %v has no number of its own, or its device has another open lease", all, l)
		}
	}
	for _, n := range []int{-1, 0, len(all) + 1, len(all) + 2} {
		b.at(n)
	}
	for _, d := range devices {
		b.of(d)
	}
}

// P16.1 to P16.4: each short script of a few calls.
func TestShortScripts(t *testing.T) {
	calls := []call{
		{doGrant, 1, 0, 1}, {doGrant, 1, 0, 3}, {doGrant, 1, 2, 1}, {doGrant, 2, 0, 2}, {doGrant, 2, 1, 1},
		{doRenew, 1, 0, 1}, {doRenew, 1, 0, 4}, {doRenew, 1, 1, 1}, {doRenew, 2, 1, 3}, {doRenew, 2, 2, 1},
		{do: doEnd, a: 1}, {do: doEnd, a: 2},
		{do: doExpire, a: 0}, {do: doExpire, a: 1}, {do: doExpire, a: 2}, {do: doExpire, a: 3},
		{do: doLoad},
	}
	var script []call
	var try func(left int)
	try = func(left int) {
		b := begin(t)
		for _, c := range script {
			b.does(c)
		}
		b.tells(0, 1, 2, 3)
		if left == 0 {
			return
		}
		for _, c := range calls {
			script = append(script, c)
			try(left - 1)
			script = script[:len(script)-1]
		}
	}
	try(4)
}

// pick is one of the numbers about the edges sometimes, and else one from least to most.
func pick(chance *rand.Rand, least, most int) int {
	if chance.Intn(60) == 0 {
		return odd[chance.Intn(len(odd))]
	}
	return least + chance.Intn(most-least+1)
}

// by is a call by chance of so many devices, of the moments from now on a little.
func by(chance *rand.Rand, devices, leases, now int) call {
	c := call{do: chance.Intn(doKinds)}
	switch c.do {
	case doGrant:
		c.a, c.b, c.c = pick(chance, 1, devices), pick(chance, now, now+3), pick(chance, 1, 12)
	case doRenew:
		c.a, c.b, c.c = pick(chance, max(leases-2*devices, 0), leases+1), pick(chance, now, now+6), pick(chance, 1, 12)
	case doEnd:
		c.a = pick(chance, max(leases-2*devices, 0), leases+1)
	case doExpire:
		c.a = pick(chance, max(now-3, 0), now+3)
	}
	return c
}

// P16.1 to P16.4: long scripts by chance, in which time goes on, and sometimes back.
func TestByChance(t *testing.T) {
	chance := source(1)
	count := map[call]int{} // kinds of calls, and their errors
	for range 60 {
		b := begin(t)
		devices := 1 + chance.Intn(12)
		now := []int{0, 0, 1000, maxTime - 40, maxTime - 4}[chance.Intn(5)]
		for range 300 {
			now = min(max(now+chance.Intn(5)-1, 0), maxTime)
			c := by(chance, devices, len(b.slow.rows), now)
			e := b.does(c)
			count[call{do: c.do, a: int(e)}]++
			b.tells(upTo(devices + 1)...)
		}
		b.tells(odd...)
	}
	for _, c := range []struct {
		do int
		e  api.Errno
	}{
		{doGrant, api.OK}, {doGrant, api.ErrArg}, {doGrant, api.ErrThere},
		{doRenew, api.OK}, {doRenew, api.ErrArg}, {doRenew, api.ErrNone}, {doRenew, api.ErrOrder},
		{doEnd, api.OK}, {doEnd, api.ErrNone}, {doExpire, api.OK}, {doExpire, api.ErrArg}, {doLoad, api.OK},
	} {
		if n := count[call{do: c.do, a: int(c.e)}]; n < 20 {
			t.Errorf("only %d calls %d told %d", n, c.do, c.e)
		}
	}
}

// P16.4: a table that is loaded of all leases goes on as the old one, wherever it is loaded.
func TestLoadedGoesOn(t *testing.T) {
	chance := source(2)
	for range 300 {
		b := begin(t)
		devices, now := 1+chance.Intn(6), chance.Intn(20)
		for range chance.Intn(60) {
			now += chance.Intn(2)
			b.does(by(chance, devices, len(b.slow.rows), now))
		}
		old := b.table
		young, _ := load(t, old.All())
		for range 60 {
			now += chance.Intn(2)
			c := by(chance, devices, len(b.slow.rows), now)
			if c.do == doLoad {
				continue
			}
			_, was := c.on(t, old)
			_, is := c.on(t, young)
			want := c.onSlow(b.slow)
			if was.e != want.e || is.e != want.e || !slices.Equal(was.list, want.list) || !slices.Equal(is.list, want.list) {
				t.Fatalf("%v: %v and %v, not %v", c, was, is, want)
			}
			for _, x := range []*lease.Table{old, young} {
				b.table = x
				b.tells(upTo(devices)...)
			}
		}
	}
}

// FuzzTable: scripts of any bytes, four of which are a call.
func FuzzTable(f *testing.F) {
	f.Add([]byte{doGrant, 7, 100, 10, doRenew, 1, 105, 10, doExpire, 115, 0, 0, doGrant, 7, 115, 10})
	f.Add([]byte{doGrant, 1, 0, 1, doGrant, 2, 0, 1, doEnd, 1, 0, 0, doLoad, 0, 0, 0, doExpire, 1, 0, 0})
	f.Fuzz(func(t *testing.T, l []byte) {
		b := begin(t)
		for l = l[:min(len(l), 800)]; len(l) >= 4; l = l[4:] { // longer ones take too long, and find no more
			b.does(call{int(l[0] % doKinds), int(l[1]), int(l[2]), int(l[3])})
			b.tells(int(l[1]))
		}
		b.tells(upTo(256)...)
	})
}

// FuzzLoad: leases of any bytes, four of which are one.
func FuzzLoad(f *testing.F) {
	f.Add([]byte{0, 1, 0, 5, 0, 1, 0, 0, 0, 255, 15, 9})
	f.Add([]byte{1, 1, 0, 0})
	f.Add([]byte{0, 7, 0, 1, 0, 7, 0, 1})
	f.Fuzz(func(t *testing.T, b []byte) {
		var l []api.Lease
		for i := 0; i+3 < len(b); i += 4 {
			l = append(l, leaseOf(len(l)+1+int(int8(b[i])), int(b[i+1])+int(b[i+2])<<8, int(int8(b[i+3]))))
		}
		x, s := load(t, l)
		if x == nil {
			return
		}
		y := &both{t, x, s}
		y.tells(upTo(256)...)
		y.does(call{do: doExpire, a: 60})
		y.tells(upTo(256)...)
		y.does(call{doGrant, 1, 60, 1})
		y.tells(upTo(256)...)
	})
}

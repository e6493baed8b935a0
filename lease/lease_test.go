package lease_test

import (
	"math"
	"slices"
	"testing"

	"pennant/api"
	"pennant/lease"
)

const (
	maxDevice = 4096
	maxLeases = 20000
	maxTime   = 1 << 40
	maxLife   = 1 << 20
	maxUntil  = maxTime + maxLife
)

// odd are numbers at the edges, and far beyond them.
var odd = []int{
	math.MinInt, math.MinInt32, -maxUntil, -4096, -1, 0, 1, 2, 4095, 4096, 4097, 19999, 20000, 20001,
	maxLife - 1, maxLife, maxLife + 1, math.MaxInt32, 1<<32 + 1, maxTime - 1, maxTime, maxTime + 1, maxUntil, math.MaxInt - maxLife, math.MaxInt,
}

// upTo are the numbers from 1 to n.
func upTo(n int) []int {
	l := make([]int, n)
	for i := range l {
		l[i] = i + 1
	}
	return l
}

// leaseOf is one, by its number, its device, and its Until; leases are several.
func leaseOf(number, device, until int) api.Lease {
	return api.Lease{Number: number, Device: device, Until: until}
}

func leases(l ...[3]int) []api.Lease {
	var out []api.Lease
	for _, x := range l {
		out = append(out, leaseOf(x[0], x[1], x[2]))
	}
	return out
}

// grants is a Grant that is OK, of this lease.
func grants(t testing.TB, x *lease.Table, device, now, life int, want api.Lease) {
	t.Helper()
	if l, e := x.Grant(device, now, life); l != want || e != api.OK {
		t.Fatalf("Grant(%d, %d, %d): %v, %d, not %v", device, now, life, l, e, want)
	}
}

// noGrant is a Grant with an error.
func noGrant(t testing.TB, x *lease.Table, device, now, life int, want api.Errno) {
	t.Helper()
	if l, e := x.Grant(device, now, life); l != (api.Lease{}) || e != want {
		t.Fatalf("Grant(%d, %d, %d): %v, %d, not %d", device, now, life, l, e, want)
	}
}

// renews is a Renew that is OK, and whose lease lasts until this.
func renews(t testing.TB, x *lease.Table, number, now, life, until int) {
	t.Helper()
	l, e := x.Renew(number, now, life)
	if e != api.OK || l.Number != number || l.Until != until {
		t.Fatalf("Renew(%d, %d, %d): %v, %d, not until %d", number, now, life, l, e, until)
	}
	is(t, x, l)
}

// noRenew is a Renew with an error.
func noRenew(t testing.TB, x *lease.Table, number, now, life int, want api.Errno) {
	t.Helper()
	if l, e := x.Renew(number, now, life); l != (api.Lease{}) || e != want {
		t.Fatalf("Renew(%d, %d, %d): %v, %d, not %d", number, now, life, l, e, want)
	}
}

func ends(t testing.TB, x *lease.Table, number int, want api.Errno) {
	t.Helper()
	if e := x.End(number); e != want {
		t.Fatalf("End(%d): %d, not %d", number, e, want)
	}
}

// expires is an Expire of these leases.
func expires(t testing.TB, x *lease.Table, now int, want ...api.Lease) {
	t.Helper()
	if l, e := x.Expire(now); e != api.OK || !slices.Equal(l, want) {
		t.Fatalf("Expire(%d): %v, %d, not %v", now, l, e, want)
	}
}

// is fails if a lease is not the open one of its device, and the one of its number.
func is(t testing.TB, x *lease.Table, want api.Lease) {
	t.Helper()
	if l, has := x.Of(want.Device); l != want || !has {
		t.Fatalf("Of(%d): %v, %v, not %v", want.Device, l, has, want)
	}
	if l, e := x.At(want.Number); l != want || e != api.OK {
		t.Fatalf("At(%d): %v, %d, not %v", want.Number, l, e, want)
	}
}

// isOver fails if the device of a lease has an open one, or the one of its number has not ended.
func isOver(t testing.TB, x *lease.Table, number, device int) {
	t.Helper()
	if l, has := x.Of(device); l != (api.Lease{}) || has {
		t.Fatalf("Of(%d): %v, %v", device, l, has)
	}
	if l, e := x.At(number); l != (leaseOf(number, device, 0)) || e != api.OK {
		t.Fatalf("At(%d): %v, %d", number, l, e)
	}
}

// all fails if a table has not these leases.
func all(t testing.TB, x *lease.Table, want ...api.Lease) {
	t.Helper()
	if l := x.All(); !slices.Equal(l, want) {
		t.Fatalf("All: %v, not %v", l, want)
	}
}

// The chapter's examples.
func TestExamples(t *testing.T) {
	x := lease.New()
	grants(t, x, 7, 100, 10, leaseOf(1, 7, 110))
	noGrant(t, x, 7, 100, 10, api.ErrThere)
	renews(t, x, 1, 105, 10, 115)
	expires(t, x, 115, leaseOf(1, 7, 115))
	grants(t, x, 7, 115, 10, leaseOf(2, 7, 125))
	all(t, x, leaseOf(1, 7, 0), leaseOf(2, 7, 125))
}

// P16.2: leases are numbered as they are granted, whatever the devices, the moments, and what has ended.
func TestGrant(t *testing.T) {
	x := lease.New()
	grants(t, x, 4096, 0, 1, leaseOf(1, 4096, 1))
	grants(t, x, 1, 50, 10, leaseOf(2, 1, 60))
	grants(t, x, 2, 7, maxLife, leaseOf(3, 2, 7+maxLife))
	grants(t, x, 3, maxTime, maxLife, leaseOf(4, 3, maxUntil))
	grants(t, x, 4, maxTime, 1, leaseOf(5, 4, maxTime+1))
	all(t, x, leaseOf(1, 4096, 1), leaseOf(2, 1, 60), leaseOf(3, 2, 7+maxLife),
		leaseOf(4, 3, maxUntil), leaseOf(5, 4, maxTime+1))
	ends(t, x, 5, api.OK)
	grants(t, x, 4, 0, 1, leaseOf(6, 4, 1))
	load(t, x.All())
}

// P16.2: each number of a Grant at the edges and far beyond them; with an error nothing is changed.
func TestGrantErrArg(t *testing.T) {
	for _, n := range odd {
		for place, most := range []int{maxDevice, maxTime, maxLife} {
			a := [3]int{7, 100, 10}
			a[place] = n
			least := 1
			if place == 1 {
				least = 0
			}
			b := begin(t)
			b.does(call{doGrant, 8, 0, 1})
			e := b.does(call{doGrant, a[0], a[1], a[2]})
			if may := among(n, least, most); may != (e == api.OK) || !may && e != api.ErrArg {
				t.Errorf("Grant%v: %d", a, e)
			}
			b.tells(slices.Concat(odd, []int{7, 8})...)
		}
	}
}

// P16.2, R1: of several errors of a Grant the first one is told.
func TestGrantErrorsInOrder(t *testing.T) {
	l := ended(maxLeases)
	l[6].Until = 50 // of the device 7
	x, e := lease.Load(l)
	if e != api.OK {
		t.Fatal(e)
	}
	noGrant(t, x, 7, -1, 1, api.ErrArg)
	noGrant(t, x, 7, maxTime+1, 1, api.ErrArg)
	noGrant(t, x, 7, 60, 0, api.ErrArg)
	noGrant(t, x, 7, 60, maxLife+1, api.ErrArg)
	noGrant(t, x, 0, 60, 1, api.ErrArg)
	noGrant(t, x, 4097, 60, 1, api.ErrArg)
	noGrant(t, x, 7, 60, 1, api.ErrThere)
	noGrant(t, x, 7, 0, maxLife, api.ErrThere)
	noGrant(t, x, 8, 60, 1, api.ErrFull)
	all(t, x, l...)
}

// P16.2: a device has one open lease, also when its time is over, until that has ended.
func TestGrantErrThere(t *testing.T) {
	x := lease.New()
	want := leaseOf(1, 7, 110)
	grants(t, x, 7, 100, 10, want)
	for _, now := range []int{0, 99, 100, 109, 110, 111, maxTime} {
		noGrant(t, x, 7, now, 10, api.ErrThere)
		is(t, x, want)
	}
	all(t, x, want)
	grants(t, x, 8, 200, 10, leaseOf(2, 8, 210))
}

// P16.2: a Renew lets a lease last longer, up to the moment ahead of its Until.
func TestRenew(t *testing.T) {
	x := lease.New()
	grants(t, x, 7, 100, 10, leaseOf(1, 7, 110))
	grants(t, x, 3, 100, 10, leaseOf(2, 3, 110))
	renews(t, x, 1, 109, 2, 111)
	renews(t, x, 1, 110, 1, 111)
	renews(t, x, 1, 110, 2, 112)
	noRenew(t, x, 1, 112, 5, api.ErrOrder)
	noRenew(t, x, 1, 113, 5, api.ErrOrder)
	noRenew(t, x, 1, maxTime, maxLife, api.ErrOrder)
	noRenew(t, x, 2, 110, 5, api.ErrOrder)
	is(t, x, leaseOf(1, 7, 112))
	is(t, x, leaseOf(2, 3, 110))
	renews(t, x, 2, 0, maxLife, maxLife)
	renews(t, x, 1, 111, maxLife, 111+maxLife)
	all(t, x, leaseOf(1, 7, 111+maxLife), leaseOf(2, 3, maxLife))
}

// P16.2: a renewing that would end earlier leaves the lease as it was, and is none that fails.
func TestRenewEndsNoEarlier(t *testing.T) {
	x := lease.New()
	grants(t, x, 7, 100, 50, leaseOf(1, 7, 150))
	for _, c := range [][3]int{{100, 10, 150}, {0, 1, 150}, {0, 149, 150}, {0, 150, 150}, {149, 1, 150}, {100, 49, 150}, {100, 50, 150}, {99, 51, 150}, {100, 51, 151}, {0, 151, 151}, {150, 1, 151}, {150, 2, 152}} {
		renews(t, x, 1, c[0], c[1], c[2])
	}
}

// P16.2: the last moments of all.
func TestRenewAtTheEnd(t *testing.T) {
	x := lease.New()
	grants(t, x, 7, maxTime-1, 1, leaseOf(1, 7, maxTime))
	noRenew(t, x, 1, maxTime, maxLife, api.ErrOrder)
	renews(t, x, 1, maxTime-1, 2, maxTime+1)
	renews(t, x, 1, maxTime, 1, maxTime+1)
	renews(t, x, 1, maxTime, maxLife, maxUntil)
	renews(t, x, 1, maxTime, maxLife, maxUntil)
	renews(t, x, 1, 0, 1, maxUntil)
	expires(t, x, maxTime)
	load(t, x.All())
	ends(t, x, 1, api.OK)
	isOver(t, x, 1, 7)
}

// P16.2: each number of a Renew at the edges and far beyond them, also of a lease that is over; with an error nothing is changed.
func TestRenewErrors(t *testing.T) {
	for _, until := range []int{0, 1, 50, maxTime, maxUntil} {
		for _, number := range slices.Concat(odd, []int{1, 3}) {
			for _, now := range odd {
				for _, life := range odd {
					x, s := load(t, leases([3]int{1, 7, until}, [3]int{2, 8, 1}))
					b := &both{t, x, s}
					b.does(call{doRenew, number, now, life})
					b.tells(7, 8)
				}
			}
		}
	}
}

// P16.2, R1: of several errors of a Renew the first one is told.
func TestRenewErrorsInOrder(t *testing.T) {
	x := lease.New()
	grants(t, x, 7, 100, 10, leaseOf(1, 7, 110))
	grants(t, x, 8, 100, 10, leaseOf(2, 8, 110))
	ends(t, x, 2, api.OK)
	for _, number := range []int{-1, 0, 1, 2, 3} {
		noRenew(t, x, number, -1, 10, api.ErrArg)
		noRenew(t, x, number, maxTime+1, 10, api.ErrArg)
		noRenew(t, x, number, 100, 0, api.ErrArg)
		noRenew(t, x, number, 100, maxLife+1, api.ErrArg)
		if number != 1 {
			noRenew(t, x, number, 100, 10, api.ErrNone)
			noRenew(t, x, number, 110, 10, api.ErrNone)
		}
	}
	noRenew(t, x, 1, 110, 10, api.ErrOrder)
	is(t, x, leaseOf(1, 7, 110))
	isOver(t, x, 2, 8)
}

// P16.3: a lease ends once, and its number stays its own.
func TestEnd(t *testing.T) {
	x := lease.New()
	for i, d := range []int{7, 1, 4096} {
		grants(t, x, d, 100, 10, leaseOf(i+1, d, 110))
	}
	for _, n := range append([]int{4}, odd...) {
		if n < 1 || n > 3 {
			ends(t, x, n, api.ErrNone)
		}
	}
	ends(t, x, 2, api.OK)
	isOver(t, x, 2, 1)
	ends(t, x, 2, api.ErrNone)
	is(t, x, leaseOf(1, 7, 110))
	is(t, x, leaseOf(3, 4096, 110))
	all(t, x, leaseOf(1, 7, 110), leaseOf(2, 1, 0), leaseOf(3, 4096, 110))
	noRenew(t, x, 2, 0, 1, api.ErrNone)
	expires(t, x, 110, leaseOf(1, 7, 110), leaseOf(3, 4096, 110))
	ends(t, x, 1, api.ErrNone)
	ends(t, x, 3, api.ErrNone)
}

// P16.3: leases expire at the moment of their Until, not ahead of it, and once.
func TestExpireAtTheMoment(t *testing.T) {
	for _, until := range []int{1, 2, 110, maxTime - 1, maxTime} {
		x, _ := load(t, leases([3]int{1, 7, until}))
		expires(t, x, 0)
		expires(t, x, until-1)
		is(t, x, leaseOf(1, 7, until))
		expires(t, x, until, leaseOf(1, 7, until))
		isOver(t, x, 1, 7)
		expires(t, x, until)
		expires(t, x, maxTime)

		y, _ := load(t, leases([3]int{1, 7, until}))
		expires(t, y, min(until+1, maxTime), leaseOf(1, 7, until))
		isOver(t, y, 1, 7)
	}
	for _, until := range []int{maxTime + 1, maxUntil} {
		x, _ := load(t, leases([3]int{1, 7, until}))
		expires(t, x, maxTime)
		is(t, x, leaseOf(1, 7, until))
	}
}

// P16.3: what is no moment is refused, and nothing ends.
func TestExpireErrArg(t *testing.T) {
	for _, now := range odd {
		b := begin(t)
		b.does(call{doGrant, 7, 0, 1})
		b.does(call{doGrant, 8, maxTime, 1})
		e := b.does(call{do: doExpire, a: now})
		if may := among(now, 0, maxTime); may != (e == api.OK) || !may && e != api.ErrArg {
			t.Errorf("Expire(%d): %d", now, e)
		}
		b.tells(7, 8)
	}
}

// P16.3: those that expire are told as they were, by rising numbers, whatever their devices and moments.
func TestExpireInOrder(t *testing.T) {
	for seed := range int64(20) { // a map is gone through in another order each time
		chance := source(seed)
		b := begin(t)
		for _, d := range chance.Perm(maxDevice)[:200] {
			b.does(call{doGrant, d + 1, chance.Intn(50), 1 + chance.Intn(50)})
		}
		for range 40 {
			b.does(call{doRenew, 1 + chance.Intn(200), chance.Intn(50), 1 + chance.Intn(50)})
			b.does(call{do: doEnd, a: 1 + chance.Intn(200)})
		}
		b.does(call{do: doExpire, a: 40})
		b.does(call{do: doExpire, a: 70})
		b.does(call{do: doExpire, a: 30})
		b.does(call{do: doExpire, a: 100})
		b.tells(upTo(maxDevice)...)
	}
}

// P16.3: of each device one lease expires, all at once.
func TestExpireOfAllDevices(t *testing.T) {
	x := lease.New()
	var want []api.Lease
	for i := range maxDevice {
		l := leaseOf(i+1, maxDevice-i, 10+i%7)
		grants(t, x, l.Device, i%7, 10, l)
		want = append(want, l)
	}
	expires(t, x, 9)
	expires(t, x, 16, want...)
	expires(t, x, maxTime)
	for i := range maxDevice {
		isOver(t, x, i+1, maxDevice-i)
	}
}

// P16.2, P16.3: a device is granted again behind an End and behind an Expire, each time by a new number.
func TestGrantAgain(t *testing.T) {
	x := lease.New()
	grants(t, x, 7, 100, 10, leaseOf(1, 7, 110))
	ends(t, x, 1, api.OK)
	grants(t, x, 7, 100, 10, leaseOf(2, 7, 110))
	noGrant(t, x, 7, 100, 10, api.ErrThere)
	ends(t, x, 1, api.ErrNone)
	noRenew(t, x, 1, 100, 50, api.ErrNone)
	is(t, x, leaseOf(2, 7, 110))
	expires(t, x, 110, leaseOf(2, 7, 110))
	isOver(t, x, 2, 7)
	grants(t, x, 7, 110, 10, leaseOf(3, 7, 120))
	noGrant(t, x, 7, 130, 10, api.ErrThere)
	is(t, x, leaseOf(3, 7, 120))
	all(t, x, leaseOf(1, 7, 0), leaseOf(2, 7, 0), leaseOf(3, 7, 120))
}

// P16.2: a table of 20000 leases grants no more, and does all else.
func TestFull(t *testing.T) {
	x := lease.New()
	for i := range maxLeases {
		device := 1 + i%maxDevice
		if i >= maxDevice {
			ends(t, x, i+1-maxDevice, api.OK)
		}
		grants(t, x, device, i, 10, leaseOf(i+1, device, i+10))
	}
	last := 1 + (maxLeases-1)%maxDevice
	noGrant(t, x, last, maxLeases, 10, api.ErrThere)
	ends(t, x, maxLeases, api.OK)
	noGrant(t, x, last, maxLeases, 10, api.ErrFull)
	isOver(t, x, maxLeases, last)
	renews(t, x, maxLeases-1, maxLeases, maxLife, maxLeases+maxLife)
	l, e := x.Expire(maxLeases + 7)
	if e != api.OK || len(l) != maxDevice-2 || l[0].Number != maxLeases-maxDevice+1 || l[len(l)-1].Number != maxLeases-2 {
		t.Fatalf("Expire: %d leases, %d", len(l), e)
	}
	for _, d := range []int{1, last - 1, last, last + 1, maxDevice} {
		want := api.ErrFull
		if d == last-1 {
			want = api.ErrThere
		}
		noGrant(t, x, d, maxLeases+100, 10, want)
	}
	y, _ := load(t, x.All())
	noGrant(t, y, last, maxLeases, 10, api.ErrFull)
	is(t, y, leaseOf(maxLeases-1, last-1, maxLeases+maxLife))
	if _, e := y.At(maxLeases + 1); e != api.ErrNone {
		t.Fatalf("At(%d): %d", maxLeases+1, e)
	}
}

// P16.3: Of and At at all edges, of no leases, open ones and ended ones.
func TestOfAndAt(t *testing.T) {
	for _, l := range [][]api.Lease{nil, ended(1), leases([3]int{1, 1, 9}), leases([3]int{1, 4096, 9}, [3]int{2, 1, 0}), some(), ended(maxLeases)} {
		x, s := load(t, l)
		b := &both{t, x, s}
		for _, n := range slices.Concat(odd, upTo(10)) {
			b.of(n)
			b.at(n)
		}
	}
}

// R3: what was told stays as it was, and what a caller does with it changes nothing.
func TestToldStays(t *testing.T) {
	x, s := load(t, some())
	b := &both{t, x, s}
	listed, wanted := x.All(), some()
	one, _ := x.Of(4096)
	four, _ := x.At(4)
	b.does(call{doRenew, 2, 5, 500})
	b.does(call{do: doEnd, a: 4})
	over, _ := x.Expire(1)
	s.expire(1)
	b.does(call{doGrant, 9, 5, 5})
	b.does(call{do: doExpire, a: maxTime})
	if !slices.Equal(listed, wanted) || one != wanted[1] || four != wanted[3] || !slices.Equal(over, wanted[4:]) {
		t.Fatalf("what was told is %v, %v, %v, %v", listed, one, four, over)
	}
	b.tells(1, 5, 9, 4096)
	clear(listed)
	clear(over)
	_ = append(listed, api.Lease{Number: -1})
	_ = append(over, api.Lease{Number: -1})
	again := x.All()
	clear(again)
	_ = append(again, api.Lease{Number: -2})
	b.does(call{doGrant, 5, 5, 5})
	b.tells(1, 5, 9, 4096)
}

// P16.4: no number is granted twice, and no device has two open leases, in long runs of all calls.
func TestTheorem(t *testing.T) {
	chance := source(3)
	x := lease.New()
	granted, holds := 0, map[int]int{} // devices' open leases
	for now := range 3000 {
		for range 3 {
			d := 1 + chance.Intn(40)
			if l, e := x.Grant(d, now, 1+chance.Intn(30)); e == api.OK {
				if granted++; l.Number != granted || holds[d] != 0 {
					t.Fatalf("Grant: %v behind %d, where the device has %d", l, granted, holds[d])
				}
				holds[d] = l.Number
			}
		}
		n := 1 + chance.Intn(granted)
		if l, _ := x.At(n); x.End(n) == api.OK {
			delete(holds, l.Device)
		}
		x.Renew(1+chance.Intn(granted), now, 1+chance.Intn(30))
		l, _ := x.Expire(now)
		for _, y := range l {
			delete(holds, y.Device)
		}
		for d := range 42 {
			if l, has := x.Of(d); has != (holds[d] != 0) || l.Number != holds[d] || has && l.Until <= now {
				t.Fatalf("at %d: Of(%d): %v, %v, not %d", now, d, l, has, holds[d])
			}
		}
	}
	if granted < 3000 {
		t.Errorf("only %d were granted", granted)
	}
}

// P1: each call ends and none panics, at all arguments.
func TestAllArguments(t *testing.T) {
	for _, l := range [][]api.Lease{nil, some()} {
		x, s := load(t, l)
		b := &both{t, x, s}
		for _, p := range odd {
			b.of(p)
			b.at(p)
			b.does(call{do: doEnd, a: p})
			b.does(call{do: doExpire, a: p})
			for _, q := range odd {
				for _, r := range odd {
					b.does(call{doGrant, p, q, r})
					b.does(call{doRenew, p, q, r})
				}
			}
		}
		b.tells(odd...)
	}
}

package lease_test

import (
	"math"
	"slices"
	"testing"

	"pennant/api"
	"pennant/lease"
)

// some are leases, of which the device 5 had three, the last one open.
func some() []api.Lease {
	return leases([3]int{1, 5, 0}, [3]int{2, 4096, 30}, [3]int{3, 5, 0}, [3]int{4, 1, maxUntil}, [3]int{5, 5, 1})
}

// P16.1: a new table has no leases.
func TestNew(t *testing.T) {
	x := lease.New()
	if x == nil || len(x.All()) != 0 {
		t.Fatalf("New: %v", x)
	}
	b := &both{t, x, &slow{}}
	b.tells(upTo(maxDevice)...)
	b.does(call{do: doExpire, a: maxTime})
	b.does(call{doRenew, 1, 0, 1})
	b.does(call{do: doEnd, a: 1})
	b.does(call{do: doEnd, a: 0})
	b.tells()
}

// P16.1, R2: no leases at all, nil and empty.
func TestLoadOfNone(t *testing.T) {
	for _, l := range [][]api.Lease{nil, {}} {
		x, s := load(t, l)
		b := &both{t, x, s}
		b.tells(1, 2)
		b.does(call{doGrant, 1, 0, 1})
		b.tells(1, 2)
	}
}

// P16.1: leases that may be.
func TestLoadThatMay(t *testing.T) {
	for _, c := range [][][3]int{
		{{1, 1, 0}},
		{{1, 1, 1}},
		{{1, 4096, maxUntil}},
		{{1, 4096, maxUntil - 1}},
		{{1, 7, 0}, {2, 7, 0}, {3, 7, 0}},
		{{1, 7, 0}, {2, 7, 5}},
		{{1, 7, 5}, {2, 7, 0}},
		{{1, 7, 0}, {2, 7, 5}, {3, 7, 0}},
		{{1, 2, 9}, {2, 1, 9}, {3, 3, 9}},
		{{1, 2, 9}, {2, 1, 3}, {3, 2, 0}, {4, 3, 1}},
		{{1, 5, 0}, {2, 4096, 30}, {3, 5, 0}, {4, 1, maxUntil}, {5, 5, 1}},
	} {
		l := leases(c...)
		x, e := lease.Load(l)
		if x == nil || e != api.OK {
			t.Errorf("Load(%v): %v, %d", l, x, e)
			continue
		}
		if got := x.All(); !slices.Equal(got, l) {
			t.Errorf("All of %v: %v", l, got)
		}
		y, s := load(t, l)
		(&both{t, y, s}).tells(upTo(maxDevice)...)
	}
}

// P16.1: leases that may not be.
func TestLoadThatMayNot(t *testing.T) {
	for _, c := range [][][3]int{
		{{}},
		{{0, 1, 0}}, {{2, 1, 0}}, {{-1, 1, 0}}, {{math.MaxInt, 1, 5}}, {{math.MinInt, 1, 5}},
		{{1, 0, 0}}, {{1, 0, 5}}, {{1, -1, 0}}, {{1, 4097, 0}}, {{1, 4097, 5}}, {{1, math.MaxInt, 5}}, {{1, math.MinInt, 5}},
		{{1, 1, -1}}, {{1, 1, maxUntil + 1}}, {{1, 1, math.MaxInt}}, {{1, 1, math.MinInt}},
		{{1, 1, 0}, {1, 2, 0}}, {{1, 1, 0}, {3, 2, 0}}, {{2, 1, 0}, {1, 2, 0}}, {{2, 1, 0}, {3, 2, 0}}, {{1, 1, 0}, {2, 2, 0}, {2, 3, 0}},
		{{0, 1, 0}, {1, 2, 0}}, {{1, 1, 0}, {2, 2, 0}, {4, 3, 0}},
		{{1, 7, 5}, {2, 7, 5}}, {{1, 7, 5}, {2, 7, 6}}, {{1, 7, 1}, {2, 7, maxUntil}},
		{{1, 7, 5}, {2, 8, 5}, {3, 7, 5}}, {{1, 7, 5}, {2, 7, 0}, {3, 7, 5}}, {{1, 7, 0}, {2, 7, 5}, {3, 8, 5}, {4, 7, 5}},
	} {
		l := leases(c...)
		if x, e := lease.Load(l); x != nil || e != api.ErrArg {
			t.Errorf("Load(%v): %v, %d", l, x, e)
		}
		load(t, l)
	}
}

// P16.1: each number of each lease of some, put in its place one by one.
func TestLoadAtTheEdges(t *testing.T) {
	edges := slices.Concat(odd, []int{3, 4, 5, 6, 7, 30, maxUntil - 1, maxUntil, maxUntil + 1})
	for i := range some() {
		for _, n := range edges {
			for place := range 3 {
				l := some()
				*[]*int{&l[i].Number, &l[i].Device, &l[i].Until}[place] = n
				load(t, l)
			}
		}
	}
}

// P16.1: each device, open and ended.
func TestLoadOfAllDevices(t *testing.T) {
	for _, until := range []int{0, 1, maxUntil} {
		var l []api.Lease
		for d := range maxDevice {
			l = append(l, leaseOf(d+1, maxDevice-d, until))
		}
		x, s := load(t, l)
		(&both{t, x, s}).tells(odd...)
		for _, d := range []int{1, 2, 2000, maxDevice} {
			more := append(slices.Clone(l), leaseOf(maxDevice+1, d, 7))
			load(t, more)
		}
	}
}

// ended are so many leases that have ended.
func ended(n int) []api.Lease {
	var l []api.Lease
	for i := range n {
		l = append(l, api.Lease{Number: i + 1, Device: 1 + i%maxDevice})
	}
	return l
}

// P16.1: as many leases as there may be, and one more.
func TestLoadOfMany(t *testing.T) {
	for _, n := range []int{maxLeases - 1, maxLeases} {
		l := ended(n)
		x, e := lease.Load(l)
		if e != api.OK || !slices.Equal(x.All(), l) {
			t.Fatalf("Load of %d leases: %d", n, e)
		}
		want := api.OK
		if n == maxLeases {
			want = api.ErrFull
		}
		if got, e := x.Grant(1, 0, 1); e != want {
			t.Fatalf("Grant behind %d leases: %v, %d, not %d", n, got, e, want)
		}
	}
	for _, n := range []int{maxLeases + 1, maxLeases + 2, 2 * maxLeases, 1 << 20} {
		if x, e := lease.Load(ended(n)); x != nil || e != api.ErrArg {
			t.Fatalf("Load of %d leases: %d", n, e)
		}
	}
	l := ended(maxLeases)
	l[0].Until, l[maxDevice].Until = 5, 5
	load(t, l)
	l[maxDevice].Until = 0
	load(t, l)
	l[maxLeases-1].Number++
	load(t, l)
}

// R3: what is loaded is not shared with what was handed in, also behind its end.
func TestLoadSharesNothing(t *testing.T) {
	room := append(some(), api.Lease{Number: -1}, api.Lease{Number: -2}, api.Lease{Number: -3})
	before := slices.Clone(room)
	x, s := load(t, room[:5])
	y, r := load(t, room[:5])
	b, c := &both{t, x, s}, &both{t, y, r}
	b.does(call{doRenew, 2, 10, 1000})
	b.does(call{do: doEnd, a: 4})
	b.does(call{do: doExpire, a: 20})
	b.does(call{doGrant, 9, 20, 5})
	b.does(call{doGrant, 10, 20, 5})
	if !slices.Equal(room, before) {
		t.Fatalf("what was handed in is %v", room)
	}
	clear(room)
	b.tells(1, 4096, 5, 9, 10)
	c.tells(1, 4096, 5, 9, 10)
}

// R4: tables have nothing of one another.
func TestTablesAreApart(t *testing.T) {
	b, c := begin(t), begin(t)
	b.does(call{doGrant, 1, 0, 9})
	c.tells(1)
	c.does(call{doGrant, 1, 3, 3})
	c.does(call{do: doExpire, a: 6})
	b.tells(1)
	x, s := load(t, b.table.All())
	d := &both{t, x, s}
	b.does(call{doRenew, 1, 5, 30})
	d.tells(1)
	d.does(call{do: doEnd, a: 1})
	d.does(call{doGrant, 2, 5, 5})
	b.tells(1, 2)
	c.tells(1, 2)
}

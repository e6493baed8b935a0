package ledger_test

import (
	"encoding/hex"
	"math"
	"slices"
	"testing"

	"pennant/api"
	"pennant/ledger"
	"pennant/sha"
)

const (
	maxDevice  = 4096
	maxEntries = 20000
	maxVersion = 1 << 30
)

// odd are numbers at the edges, and far beyond them.
var odd = []int{
	math.MinInt, math.MinInt32, -65535, -4096, -1, 0, 1, 2, 3, 4, 255, 256, 257, 4095, 4096, 4097, 19999, 20000, 20001,
	65535, 65536, 65537, maxVersion - 1, maxVersion, maxVersion + 1, math.MaxInt32, 1<<32 - 1, 1 << 32, 1<<32 + 1, math.MaxInt,
}

// upTo are the numbers from 1 to n.
func upTo(n int) []int {
	l := make([]int, n)
	for i := range l {
		l[i] = i + 1
	}
	return l
}

// entryOf is one, by its device, its lease, its version, and its outcome; entries are several.
func entryOf(device, number, version, outcome int) api.Entry {
	return api.Entry{Device: device, Lease: number, Version: version, Outcome: outcome}
}

func entries(l ...[4]int) []api.Entry {
	var out []api.Entry
	for _, x := range l {
		out = append(out, entryOf(x[0], x[1], x[2], x[3]))
	}
	return out
}

// some are entries in no order: the device 7 did it well twice and badly once, 300 badly twice, 4096 well.
func some() []api.Entry {
	return entries([4]int{7, 300, 2, api.Committed}, [4]int{4096, 1, 2, api.Committed}, [4]int{300, 20000, 9, api.RolledBack},
		[4]int{7, 2, 3, api.Refused}, [4]int{300, 4, 2, api.Refused}, [4]int{7, 1, maxVersion, api.Committed})
}

// records is a Record that answers this.
func records(t testing.TB, x *ledger.Ledger, e api.Entry, want bool, wantNo api.Errno) {
	t.Helper()
	if is, no := x.Record(e); is != want || no != wantNo {
		t.Fatalf("Record(%v): %v, %d, not %v, %d", e, is, no, want, wantNo)
	}
}

// counts is a Counts that answers this.
func counts(t testing.TB, x *ledger.Ledger, good, bad int, devices ...int) {
	t.Helper()
	if g, b := x.Counts(devices); g != good || b != bad {
		t.Fatalf("Counts(%v): %d, %d, not %d, %d", devices, g, b, good, bad)
	}
}

// all fails if a ledger has not these entries.
func all(t testing.TB, x *ledger.Ledger, want ...api.Entry) {
	t.Helper()
	if l := x.All(); !slices.Equal(l, want) {
		t.Fatalf("All: %v, not %v", l, want)
	}
}

// of fails if a device has not these entries.
func of(t testing.TB, x *ledger.Ledger, device int, want ...api.Entry) {
	t.Helper()
	if l := x.Of(device); !slices.Equal(l, want) {
		t.Fatalf("Of(%d): %v, not %v", device, l, want)
	}
}

// The chapter's examples.
func TestExamples(t *testing.T) {
	x := ledger.New()
	records(t, x, entryOf(7, 1, 2, api.Committed), true, api.OK)
	records(t, x, entryOf(7, 1, 2, api.RolledBack), false, api.OK)
	counts(t, x, 1, 0, 7, 8)
}

// P17.1, P17.2, P17.3: a new ledger has no entries, and each is one of its own.
func TestNew(t *testing.T) {
	x := ledger.New()
	if x == nil {
		t.Fatal("New: none")
	}
	b := &both{t, x, &slow{}}
	b.tells(upTo(maxDevice)...)
	b.tells(odd...)
	b.tells()
	records(t, ledger.New(), entryOf(7, 1, 2, 1), true, api.OK)
	b.tells(7)
	b.records(entryOf(8, 1, 2, 1))
	b.tells(7, 8)
	if y := ledger.New(); y == x || len(y.All()) != 0 {
		t.Fatalf("New: %v", y.All())
	}
}

// P17.1: each number of an entry at its edges and far beyond them; one that may not be changes nothing.
func TestRecordErrArg(t *testing.T) {
	for _, n := range odd {
		for at, most := range []int{maxDevice, maxEntries, maxVersion, 3} {
			a := [4]int{8, 8, 8, 1}
			a[at] = n
			b := loaded(t, some()...)
			is, e := b.records(entries(a)[0])
			if may := among(n, 1, most); may != is || may != (e == api.OK) || !may && e != api.ErrArg {
				t.Errorf("Record(%v): %v, %d", a, is, e)
			}
			b.tells(slices.Concat(odd, []int{7, 8, 300})...)
		}
	}
}

// P17.1: the least and the greatest numbers, all together.
func TestRecordAtTheEdges(t *testing.T) {
	x := ledger.New()
	for _, device := range []int{4096, 1} {
		for _, number := range []int{20000, 1} {
			for _, version := range []int{maxVersion, 1} {
				for _, outcome := range []int{3, 1, 2} {
					first := version == maxVersion && outcome == 3
					records(t, x, entryOf(device, number, version, outcome), first, api.OK)
				}
			}
		}
	}
	all(t, x, entryOf(1, 1, maxVersion, 3), entryOf(1, 20000, maxVersion, 3), entryOf(4096, 1, maxVersion, 3), entryOf(4096, 20000, maxVersion, 3))
}

// P17.1, P17.4: what comes again of an attempt changes nothing, whatever it says.
func TestRecordAgain(t *testing.T) {
	for first := range 3 {
		b := loaded(t, entryOf(7, 1, 2, 1+first), entryOf(7, 2, 2, 1), entryOf(8, 1, 2, 3))
		for _, version := range []int{1, 2, 3, maxVersion} {
			for outcome := range 3 {
				for range 2 {
					records(t, b.ledger, entryOf(7, 1, version, 1+outcome), false, api.OK)
					b.tells(7, 8)
				}
			}
		}
		of(t, b.ledger, 7, entryOf(7, 1, 2, 1+first), entryOf(7, 2, 2, 1))
	}
}

// P17.1: an attempt is a device and a lease: others of either are others, also where the numbers are turned round.
func TestRecordOfOtherAttempts(t *testing.T) {
	x := ledger.New()
	for _, a := range [][2]int{{7, 1}, {7, 2}, {8, 1}, {1, 7}, {2, 7}, {1, 8}, {71, 1}, {7, 11}, {1, 71}, {257, 1}, {1, 257}, {4096, 20000}, {1, 4096}, {4096, 1}} {
		records(t, x, entryOf(a[0], a[1], 2, 1), true, api.OK)
		records(t, x, entryOf(a[0], a[1], 2, 1), false, api.OK)
	}
	if n := len(x.All()); n != 14 {
		t.Fatalf("All: %d entries", n)
	}
}

// P17.1, R1: an entry that may not be is told ahead of all else, also of an attempt that is there.
func TestRecordErrorsInOrder(t *testing.T) {
	x := full(t)
	before := x.Digest()
	there, other := x.All()[0], entryOf(4096, 19999, 2, 1)
	records(t, x, there, false, api.OK)
	records(t, x, other, false, api.ErrFull)
	for _, e := range []api.Entry{there, other} {
		for _, version := range []int{-1, 0, maxVersion + 1} {
			e.Version = version
			records(t, x, e, false, api.ErrArg)
		}
		e.Version = 2
		for _, outcome := range []int{-1, 0, 4} {
			e.Outcome = outcome
			records(t, x, e, false, api.ErrArg)
		}
	}
	if x.Digest() != before {
		t.Fatal("what was not noted has changed the digest")
	}
}

// full is a ledger of 20000 entries: five of each device from 1 to 4000.
func full(t testing.TB) *ledger.Ledger {
	t.Helper()
	x := ledger.New()
	for i := range maxEntries {
		records(t, x, entryOf(1+i%4000, 1+i, 2, 1+i%3), true, api.OK)
	}
	return x
}

// P17.1: the entry 20000 is noted, the next one is not; an attempt that is there is told all the same.
func TestFull(t *testing.T) {
	x := full(t)
	for _, e := range entries([4]int{4001, 1, 2, 1}, [4]int{1, 2, 2, 1}, [4]int{4096, 20000, 2, 1}) {
		records(t, x, e, false, api.ErrFull)
		records(t, x, e, false, api.ErrFull)
	}
	for i := range maxEntries {
		records(t, x, entryOf(1+i%4000, 1+i, 3, 1+(i+1)%3), false, api.OK)
	}
	s := &slow{}
	for i := range maxEntries {
		s.list = append(s.list, entryOf(1+i%4000, 1+i, 2, 1+i%3))
	}
	b := &both{t, x, s}
	b.tells(1, 2, 3, 4000, 4001, 4096)
	counts(t, x, 4000, 13333, upTo(maxDevice)...)
}

// P17.1: all leases of one device, recorded from the last one on.
func TestFullOfOneDevice(t *testing.T) {
	x := ledger.New()
	var want []api.Entry
	for i := range maxEntries {
		records(t, x, entryOf(9, maxEntries-i, 2, 1), true, api.OK)
		want = append(want, entryOf(9, i+1, 2, 1))
	}
	of(t, x, 9, want...)
	all(t, x, want...)
	counts(t, x, 1, 0, 9)
	of(t, x, 8)
	of(t, x, 10)
	records(t, x, entryOf(8, 1, 2, 1), false, api.ErrFull)
}

// P17.1: entries are told by rising devices, of one device by rising leases, as numbers, not as texts.
func TestInOrder(t *testing.T) {
	b := loaded(t, some()...)
	all(t, b.ledger, entryOf(7, 1, maxVersion, 1), entryOf(7, 2, 3, 3), entryOf(7, 300, 2, 1),
		entryOf(300, 4, 2, 3), entryOf(300, 20000, 9, 2), entryOf(4096, 1, 2, 1))
	of(t, b.ledger, 7, entryOf(7, 1, maxVersion, 1), entryOf(7, 2, 3, 3), entryOf(7, 300, 2, 1))
	of(t, b.ledger, 300, entryOf(300, 4, 2, 3), entryOf(300, 20000, 9, 2))
	of(t, b.ledger, 4096, entryOf(4096, 1, 2, 1))
	b.tells(odd...)
	for seed := range int64(30) { // a map is gone through in another order each time
		chance := source(seed)
		b := begin(t)
		for _, i := range chance.Perm(400) {
			b.records(entryOf(1+i%20*200, 1+i/20*1000, 1+chance.Intn(9), 1+chance.Intn(3)))
		}
		b.tells(1, 201, 3801, 2, 200)
	}
}

// P17.1: of a device that has none, and of numbers that are no device, nothing is told.
func TestOfNone(t *testing.T) {
	b := loaded(t, some()...)
	for _, n := range slices.Concat(odd, upTo(10)) {
		if l := b.ledger.Of(n); n != 7 && n != 4096 && len(l) != 0 {
			t.Errorf("Of(%d): %v", n, l)
		}
		b.of(n)
	}
}

// P17.2: each device counts once, however often it comes and however often it did it well; each entry of another outcome counts.
func TestCounts(t *testing.T) {
	x := loaded(t, some()...).ledger
	counts(t, x, 0, 0)
	counts(t, x, 1, 1, 7)
	counts(t, x, 1, 1, 7, 7, 7)
	counts(t, x, 0, 2, 300)
	counts(t, x, 0, 2, 300, 300)
	counts(t, x, 1, 0, 4096)
	counts(t, x, 2, 3, 7, 300, 4096)
	counts(t, x, 2, 3, 4096, 7, 300, 7, 4096, 5, 300)
	counts(t, x, 2, 1, 4096, 7)
	counts(t, x, 0, 0, 1, 2, 3, 20000)
	counts(t, x, 2, 3, upTo(maxDevice)...)
	counts(t, x, 2, 3, slices.Concat(odd, upTo(maxDevice), upTo(maxDevice))...)
}

// P17.2: what is not Committed counts badly, also of a device that did it well, ahead of it or behind.
func TestCountsOfEachOutcome(t *testing.T) {
	for _, c := range []struct{ outcomes, counts [2]int }{
		{[2]int{1, 1}, [2]int{1, 0}}, {[2]int{1, 2}, [2]int{1, 1}}, {[2]int{1, 3}, [2]int{1, 1}},
		{[2]int{2, 1}, [2]int{1, 1}}, {[2]int{2, 2}, [2]int{0, 2}}, {[2]int{2, 3}, [2]int{0, 2}},
		{[2]int{3, 1}, [2]int{1, 1}}, {[2]int{3, 2}, [2]int{0, 2}}, {[2]int{3, 3}, [2]int{0, 2}},
	} {
		x := loaded(t, entryOf(7, 1, 2, c.outcomes[0]), entryOf(7, 2, 2, c.outcomes[1])).ledger
		counts(t, x, c.counts[0], c.counts[1], 7)
		counts(t, x, 0, 0, 8)
	}
}

// R2: no devices at all, nil and empty.
func TestCountsOfNone(t *testing.T) {
	x := loaded(t, some()...).ledger
	for _, l := range [][]int{nil, {}} {
		if g, b := x.Counts(l); g != 0 || b != 0 {
			t.Errorf("Counts(%v): %d, %d", l, g, b)
		}
	}
}

// P17.3: sums that were reckoned elsewhere, of the bytes that the chapter names.
func TestDigest(t *testing.T) {
	for _, c := range []struct {
		list []api.Entry
		want string
	}{
		{nil, "e3b0c44298fc1c149afbf4c8996fb92427ae41e4649b934ca495991b7852b855"},
		{entries([4]int{7, 1, 2, 1}), "79ad4703d4034f64121b09a7620aa67f9cb3de0d36dcf2e10fb60bdb92f6f9f9"},
		{entries([4]int{4096, 20000, maxVersion, 3}, [4]int{0x0102, 0x0304, 0x05060708, 2}), "006a65943cf4ab76f3638c06653b90212b5584c858cd35908e0905abd78ed1c3"},
		{entries([4]int{2, 1, 1, 1}, [4]int{1, 2, 1, 2}, [4]int{1, 1, 1, 3}), "da8f40dc8c3141784ccab3c6c19529b94d3605e3cbaf133cf1fd03e7d17be1d7"},
	} {
		got := loaded(t, c.list...).ledger.Digest()
		if hex.EncodeToString(got[:]) != c.want {
			t.Errorf("Digest of %v: %x", c.list, got)
		}
	}
	text := []byte{7, 0, 1, 0, 0, 0, 2, 0, 0, 0, 1}
	if got := loaded(t, entryOf(7, 1, 2, 1)).ledger.Digest(); got != sha.Sum(text) {
		t.Errorf("Digest: %x, not that of %v", got, text)
	}
}

// P17.3: each number of an entry has its part in the digest.
func TestDigestHangsOnAll(t *testing.T) {
	sums := map[[32]byte]api.Entry{}
	for at := range 4 {
		for n := 1; n <= []int{4096, 20000, maxVersion, 3}[at]; n += 1 + n/40 {
			a := [4]int{7, 7, 7, 1}
			a[at] = n
			e := entries(a)[0]
			d := loaded(t, e).ledger.Digest()
			if x, is := sums[d]; is && x != e {
				t.Fatalf("Digest of %v and of %v: %x", x, e, d)
			}
			sums[d] = e
		}
	}
}

// P17.4: where no two entries are of one attempt, the order in which they come changes nothing.
func TestOrders(t *testing.T) {
	var left []api.Entry
	var list []api.Entry
	want := loaded(t, some()...).ledger
	var try func()
	try = func() {
		if len(left) == 0 {
			b := loaded(t, list...)
			b.tells(7, 300, 4096, 5)
			if b.ledger.Digest() != want.Digest() || !slices.Equal(b.ledger.All(), want.All()) {
				t.Fatalf("%v: another ledger than of %v", list, some())
			}
			return
		}
		for i, e := range slices.Clone(left) {
			left = slices.Delete(left, i, i+1)
			list = append(list, e)
			try()
			list = list[:len(list)-1]
			left = slices.Insert(left, i, e)
		}
	}
	left = some()
	try()
}

// P17.4: in whichever order attempts come, and however often: the first entry of each counts, and counts rise by at most one.
func TestTheorem(t *testing.T) {
	for seed := range int64(20) {
		chance := source(100 + seed)
		x := ledger.New()
		first := map[[2]int]api.Entry{}
		good, bad := 0, 0
		devices := upTo(15)
		for range 600 {
			e := entryOf(1+chance.Intn(20), 1+chance.Intn(12), 1+chance.Intn(3), 1+chance.Intn(3))
			a := [2]int{e.Device, e.Lease}
			_, came := first[a]
			records(t, x, e, !came, api.OK)
			if !came {
				first[a] = e
			}
			g, b := x.Counts(devices)
			if g < good || b < bad || g+b > good+bad+1 || came && (g > good || b > bad) || e.Device > 15 && g+b != good+bad {
				t.Fatalf("Record(%v): from %d, %d to %d, %d", e, good, bad, g, b)
			}
			good, bad = g, b
		}
		l := x.All()
		if len(l) != len(first) || good < 10 || bad < 50 {
			t.Fatalf("%d entries of %d attempts, %d devices well, %d badly", len(l), len(first), good, bad)
		}
		for _, e := range l {
			if e != first[[2]int{e.Device, e.Lease}] {
				t.Fatalf("%v is not the first one", e)
			}
		}
	}
}

// R3: what was told stays as it was, and what a caller does with it, or with what was handed in, changes nothing.
func TestToldStays(t *testing.T) {
	b := loaded(t, some()...)
	devices := []int{7, 300}
	b.counts(devices...)
	clear(devices)
	listed, sevens := b.ledger.All(), b.ledger.Of(7)
	wanted, wantSevens := b.slow.all(), b.slow.of(7)
	b.records(entryOf(7, 5, 2, 1))
	b.records(entryOf(1, 1, 2, 1))
	b.tells(1, 7, 300, 4096)
	if !slices.Equal(listed, wanted) || !slices.Equal(sevens, wantSevens) {
		t.Fatalf("what was told is %v, %v", listed, sevens)
	}
	clear(listed)
	_ = append(listed, entryOf(-1, 1, 1, 1))
	if !slices.Equal(sevens, wantSevens) {
		t.Fatalf("what was told of 7 is %v", sevens)
	}
	clear(sevens)
	_ = append(sevens, entryOf(-1, 1, 1, 1))
	again := b.ledger.All()
	clear(again)
	b.tells(1, 7, 300, 4096)
}

// R4: two ledgers are apart.
func TestApart(t *testing.T) {
	a, b := begin(t), begin(t)
	for i := range 30 {
		a.records(entryOf(1+i%5, 1+i, 2, 1+i%3))
		b.records(entryOf(1+i%7, 1+i, 3, 1+i%2))
		a.tells(upTo(8)...)
		b.tells(upTo(8)...)
	}
}

// P1: each call ends and none panics, at all arguments.
func TestAllArguments(t *testing.T) {
	b := begin(t)
	for _, p := range odd {
		b.of(p)
		b.counts(p, p)
		for _, q := range odd {
			b.counts(p, q)
			for _, r := range odd {
				for _, s := range []int{math.MinInt, -1, 0, 1, 2, 3, 4, 257, math.MaxInt} {
					b.records(entryOf(p, q, r, s))
				}
			}
		}
	}
	b.tells(odd...)
}

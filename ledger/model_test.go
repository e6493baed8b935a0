package ledger_test

import (
	"crypto/sha256"
	"encoding/binary"
	"maps"
	"math/rand"
	"slices"
	"testing"

	"pennant/api"
	"pennant/ledger"
	"pennant/sha"
)

// source is the same numbers in each run of the tests.
func source(seed int64) *rand.Rand { return rand.New(rand.NewSource(seed)) }

// slow is a second ledger: entries as they were recorded, all of which are looked through for each answer.
type slow struct{ list []api.Entry }

// among tells whether n is one of the numbers from least to most.
func among(n, least, most int) bool { return max(least, min(n, most)) == n }

func (s *slow) has(e api.Entry) bool {
	for _, x := range s.list {
		if x.Device == e.Device && x.Lease == e.Lease {
			return true
		}
	}
	return false
}

func (s *slow) record(e api.Entry) (bool, api.Errno) {
	switch {
	case !among(e.Device, 1, maxDevice), !among(e.Lease, 1, maxEntries), !among(e.Version, 1, maxVersion), !among(e.Outcome, 1, 3):
		return false, api.ErrArg
	case s.has(e):
		return false, api.OK
	case len(s.list) >= maxEntries:
		return false, api.ErrFull
	}
	s.list = append(s.list, e)
	return true, api.OK
}

// place is where an entry stands among all that may be.
func place(e api.Entry) int { return e.Device<<20 + e.Lease }

func (s *slow) all() []api.Entry {
	at := map[int]api.Entry{}
	for _, e := range s.list {
		at[place(e)] = e
	}
	var l []api.Entry
	for _, p := range slices.Sorted(maps.Keys(at)) {
		l = append(l, at[p])
	}
	return l
}

func (s *slow) of(device int) []api.Entry {
	l := s.all()
	for i := 0; i < len(l); {
		if l[i].Device == device {
			i++
		} else {
			l = append(l[:i], l[i+1:]...)
		}
	}
	return l
}

// counts goes through the devices, and of each through its entries.
func (s *slow) counts(devices []int) (int, int) {
	good, bad := 0, 0
	for i, d := range devices {
		if slices.Contains(devices[:i], d) {
			continue
		}
		well := 0
		for _, e := range s.list {
			switch {
			case e.Device != d:
			case e.Outcome == 1:
				well = 1
			default:
				bad++
			}
		}
		good += well
	}
	return good, bad
}

// bytes are those that the digest is of.
func (s *slow) bytes() []byte {
	var b []byte
	for _, e := range s.all() {
		b = binary.LittleEndian.AppendUint16(b, uint16(e.Device))
		b = binary.LittleEndian.AppendUint32(b, uint32(e.Lease))
		b = binary.LittleEndian.AppendUint32(b, uint32(e.Version))
		b = append(b, byte(e.Outcome))
	}
	return b
}

// both is a ledger, and the slow one beside it.
type both struct {
	t      testing.TB
	ledger *ledger.Ledger
	slow   *slow
}

func begin(t testing.TB) *both { return &both{t, ledger.New(), &slow{}} }

// loaded is both with these entries.
func loaded(t testing.TB, l ...api.Entry) *both {
	t.Helper()
	b := begin(t)
	for _, e := range l {
		if is, no := b.records(e); !is || no != api.OK {
			t.Fatalf("Record(%v): %v, %d", e, is, no)
		}
	}
	return b
}

// records records on both, and holds the answers against each other.
func (b *both) records(e api.Entry) (bool, api.Errno) {
	b.t.Helper()
	got, no := b.ledger.Record(e)
	if want, wno := b.slow.record(e); got != want || no != wno {
		b.t.Fatalf("Record(%v): %v, %d, not %v, %d", e, got, no, want, wno)
	}
	return got, no
}

// of and counts hold an answer of the ledger against the slow one's.
func (b *both) of(device int) {
	b.t.Helper()
	got := b.ledger.Of(device)
	if want := b.slow.of(device); !slices.Equal(got, want) {
		b.t.Fatalf("Of(%d): %v, not %v", device, got, want)
	}
}

func (b *both) counts(devices ...int) (int, int) {
	b.t.Helper()
	before := slices.Clone(devices)
	good, bad := b.ledger.Counts(devices)
	if want, wbad := b.slow.counts(before); good != want || bad != wbad {
		b.t.Fatalf("Counts(%v): %d, %d, not %d, %d", before, good, bad, want, wbad)
	}
	if !slices.Equal(devices, before) {
		b.t.Fatalf("Counts(%v) changed what was handed in: %v", before, devices)
	}
	return good, bad
}

// tells holds all that the ledger tells, also of these devices, against the slow one.
func (b *both) tells(devices ...int) {
	b.t.Helper()
	if got, want := b.ledger.All(), b.slow.all(); !slices.Equal(got, want) {
		b.t.Fatalf("All: %v, not %v", got, want)
	}
	text := b.slow.bytes()
	if got := b.ledger.Digest(); got != sha.Sum(text) || got != sha256.Sum256(text) {
		b.t.Fatalf("Digest: %x, not that of %v", got, text)
	}
	for _, d := range devices {
		b.of(d)
		b.counts(d)
	}
	b.counts(devices...)
}

// P17.1 to P17.4: each short script of a few entries.
func TestShortScripts(t *testing.T) {
	var calls []api.Entry
	for _, device := range []int{1, 2} {
		for _, number := range []int{1, 2} {
			calls = append(calls, entryOf(device, number, 1, 1), entryOf(device, number, 1, 2), entryOf(device, number, 2, 3))
		}
	}
	calls = append(calls, entryOf(0, 1, 1, 1), entryOf(1, 1, 1, 4))
	var script []api.Entry
	var try func(left int)
	try = func(left int) {
		b := begin(t)
		for _, e := range script {
			b.records(e)
		}
		b.tells(2, 0, 1, 1)
		if left == 0 {
			return
		}
		for _, e := range calls {
			script = append(script, e)
			try(left - 1)
			script = script[:len(script)-1]
		}
	}
	try(4)
}

// pick is one of the numbers about the edges sometimes, and else one from 1 to most.
func pick(chance *rand.Rand, most int) int {
	if chance.Intn(60) == 0 {
		return odd[chance.Intn(len(odd))]
	}
	return 1 + chance.Intn(most)
}

// by is an entry by chance, of so many devices and leases.
func by(chance *rand.Rand, devices, leases int) api.Entry {
	return entryOf(pick(chance, devices), pick(chance, leases), pick(chance, 1<<(1+chance.Intn(30))), pick(chance, 3))
}

// P17.1 to P17.3: long scripts by chance, and counts of devices by chance.
func TestByChance(t *testing.T) {
	chance := source(1)
	noted, there, wrong := 0, 0, 0
	for range 60 {
		b := begin(t)
		devices, leases := 1+chance.Intn(300), 1+chance.Intn(300)
		for range 150 {
			switch is, e := b.records(by(chance, devices, leases)); {
			case is:
				noted++
			case e == api.OK:
				there++
			default:
				wrong++
			}
			b.counts(1+chance.Intn(devices), 1+chance.Intn(devices), 1+chance.Intn(devices+1))
			b.of(1 + chance.Intn(devices))
			if chance.Intn(10) == 0 {
				b.tells()
			}
		}
		b.tells(upTo(devices + 1)...)
		b.tells(odd...)
	}
	if noted < 1000 || there < 200 || wrong < 100 {
		t.Errorf("only %d were noted, %d were there, %d were wrong", noted, there, wrong)
	}
}

// FuzzLedger: entries of any bytes, six of which are one.
func FuzzLedger(f *testing.F) {
	f.Add([]byte{7, 0, 1, 0, 2, 1, 7, 0, 1, 0, 2, 2, 5, 0, 3, 0, 2, 3})
	f.Add([]byte{0, 16, 32, 78, 255, 3, 1, 16, 32, 78, 255, 3, 0, 16, 33, 78, 255, 3})
	f.Fuzz(func(t *testing.T, l []byte) {
		b := begin(t)
		var devices []int
		for l = l[:min(len(l), 600)]; len(l) >= 6; l = l[6:] { // longer ones take too long, and find no more
			e := entryOf(int(l[0])+int(l[1])<<8, int(l[2])+int(l[3])<<8, int(l[4])<<(l[4]%23), int(l[5]%5))
			b.records(e)
			devices = append(devices, e.Device)
			b.of(e.Device)
		}
		b.tells(devices...)
		b.tells(devices[:len(devices)/2]...)
	})
}

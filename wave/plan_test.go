package wave_test

import (
	"math/rand"
	"slices"
	"testing"

	"pennant/api"
	"pennant/wave"
)

// plan holds a Plan against the chapter, and tells the waves.
func plan(t testing.TB, campaign int, devices, parts []int) [][]int {
	t.Helper()
	d, p := slices.Clone(devices), slices.Clone(parts)
	waves, e := wave.Plan(campaign, devices, parts)
	if !slices.Equal(d, devices) || !slices.Equal(p, parts) {
		t.Fatalf("Plan(%d, %v, %v) changed an argument", campaign, d, p)
	}
	if want := planError(campaign, d, p); want != api.OK {
		if e != want || len(waves) != 0 {
			t.Fatalf("Plan(%d, %v, %v): %v, %d, not %d", campaign, d, p, waves, e, want)
		}
		return nil
	}
	if want := planned(campaign, d, p); e != api.OK || !sameWaves(waves, want) {
		t.Fatalf("Plan(%d, %v, %v): %v, %d, not %v", campaign, d, p, waves, e, want)
	}
	return waves
}

// campaigns are numbers in whose bytes each place differs.
var campaigns = []int{1, 2, 3, 127, 128, 255, 256, 257, 65535, 65536, 1 << 23, 1 << 24, 0x01020304, 0x04030201, 0x3FFFFFFF, maxNumber}

// somePartss are parts that may be.
var somePartss = [][]int{
	{100}, {1, 100}, {50, 100}, {99, 100}, {10, 50, 100}, {33, 34, 35, 100}, {1, 2, 3, 4, 5, 6, 7, 100}, {93, 94, 95, 96, 97, 98, 99, 100}, {1, 5, 10, 25, 50, 75, 90, 100},
}

// shuffled are the same devices in another order.
func shuffled(chance *rand.Rand, devices []int) []int {
	l := slices.Clone(devices)
	chance.Shuffle(len(l), func(i, j int) { l[i], l[j] = l[j], l[i] })
	return l
}

// P15.2: plans that are known, reckoned elsewhere.
func TestPlanKnown(t *testing.T) {
	for _, c := range []struct {
		campaign       int
		devices, parts []int
		want           [][]int
	}{
		{1, []int{1, 2, 3}, []int{10, 100}, [][]int{{1}, {3, 2}}},
		{1, upTo(10), []int{10, 50, 100}, [][]int{{9}, {1, 8, 3, 10}, {2, 7, 6, 4, 5}}},
		{7, upTo(12), []int{1, 2, 50, 51, 100}, [][]int{{6}, {}, {7, 12, 5, 4, 8}, {1}, {9, 2, 11, 10, 3}}},
		{0x01020304, []int{1, 2, 3, 4, 5, 300}, []int{50, 100}, [][]int{{4, 5, 300}, {3, 2, 1}}},
		{maxNumber, []int{4096, 1, 256, 255, 4095, 1000}, []int{1, 34, 100}, [][]int{{255}, {4095, 1}, {4096, 256, 1000}}},
	} {
		waves, e := wave.Plan(c.campaign, c.devices, c.parts)
		if e != api.OK || !sameWaves(waves, c.want) {
			t.Errorf("Plan(%d, %v, %v): %v, %d, not %v", c.campaign, c.devices, c.parts, waves, e, c.want)
		}
	}
}

// P15.2: a lot goes by all bytes of the campaign and of the device.
func TestPlanByLots(t *testing.T) {
	var devices []int
	for bit := range 12 {
		devices = append(devices, 1<<bit, 4096-1<<bit)
	}
	devices = append(devices, 3, 4096, 0x0102, 0x0201)
	slices.Sort(devices)
	devices = slices.Compact(devices)
	for _, campaign := range campaigns {
		plan(t, campaign, devices, []int{100})
	}
	for bit := range 31 {
		plan(t, 1<<bit, devices, []int{20, 100})
		plan(t, 1<<30-1<<bit+1, devices, []int{20, 100})
	}
	for campaign := range 1000 {
		plan(t, campaign+1, devices, []int{50, 100})
	}
}

// P15.2: all devices that there are, in one plan.
func TestPlanOfAll(t *testing.T) {
	for _, campaign := range []int{1, 256, maxNumber} {
		for _, parts := range somePartss {
			plan(t, campaign, upTo(maxDevice), parts)
		}
	}
}

// P15.2: no two devices of any campaign have one lot: lots of one campaign differ as those of another do, by what the two devices differ in alone.
func TestNoTwoOfOneLot(t *testing.T) {
	for x := 1; x < 2*maxDevice; x++ {
		if lot(0, x) == lot(0, 0) {
			t.Fatalf("devices that differ by the bits %x have one lot", x)
		}
		for _, campaign := range campaigns {
			if lot(campaign, x)^lot(campaign, 0) != lot(0, x)^lot(0, 0) {
				t.Fatalf("in the campaign %d lots differ otherwise, by the bits %x", campaign, x)
			}
		}
	}
}

// P15.2, P15.4: each count of devices, cut at each part, rounded up: not less than the part, and less than one device more.
func TestPlanCuts(t *testing.T) {
	counts := upTo(120)
	for _, n := range []int{150, 199, 200, 201, 250, 333, 1000} {
		counts = append(counts, n)
	}
	for _, n := range counts {
		devices := upTo(n)
		for p := 1; p < 100; p++ {
			waves, e := wave.Plan(n, devices, []int{p, 100})
			if e != api.OK || len(waves) != 2 {
				t.Fatalf("Plan of %d devices by %d and 100: %d waves, %d", n, p, len(waves), e)
			}
			first, second := len(waves[0]), len(waves[1])
			if 100*first < p*n || 100*(first-1) >= p*n || first+second != n {
				t.Fatalf("%d devices by %d and 100: %d and %d", n, p, first, second)
			}
		}
	}
}

// theorem holds a plan that may be against P15.4.
func theorem(t testing.TB, devices, parts []int, waves [][]int) {
	t.Helper()
	if len(waves) != len(parts) {
		t.Fatalf("%d waves by %v", len(waves), parts)
	}
	till := 0
	for k, w := range waves {
		till += len(w)
		if 100*till < parts[k]*len(devices) || 100*till >= parts[k]*len(devices)+100 {
			t.Fatalf("%d devices by %v: the wave %d goes up to %d", len(devices), parts, k, till)
		}
	}
	l, d := slices.Concat(waves...), slices.Clone(devices)
	slices.Sort(l)
	slices.Sort(d)
	if !slices.Equal(l, d) {
		t.Fatalf("of %v the waves have %v", d, l)
	}
}

// P15.4: of all counts of few devices and many parts, each device is in just one wave; also where parts end at the same place.
func TestPlanTheorem(t *testing.T) {
	chance := rand.New(rand.NewSource(1))
	for n := range 40 {
		for _, parts := range somePartss {
			devices := shuffled(chance, upTo(maxDevice))[:n]
			theorem(t, devices, parts, plan(t, 1+chance.Intn(maxNumber), devices, parts))
		}
	}
	for _, n := range []int{99, 100, 101, 999, 1000, 4095, 4096} {
		devices := shuffled(chance, upTo(maxDevice))[:n]
		for _, parts := range somePartss {
			waves, _ := wave.Plan(n, devices, parts)
			theorem(t, devices, parts, waves)
		}
	}
}

// lengths are how many devices each wave has.
func lengths(waves [][]int) []int {
	var l []int
	for _, w := range waves {
		l = append(l, len(w))
	}
	return l
}

// P15.2: parts that end at the same place leave waves without devices between them; there are as many waves as parts nevertheless.
func TestPlanEndsAtTheSamePlace(t *testing.T) {
	for _, c := range []struct {
		n           int
		parts, want []int
	}{
		{1, []int{1, 2, 3, 4, 5, 6, 7, 100}, []int{1, 0, 0, 0, 0, 0, 0, 0}},
		{2, []int{50, 51, 100}, []int{1, 1, 0}},
		{2, []int{1, 50, 51, 99, 100}, []int{1, 0, 1, 0, 0}},
		{3, []int{10, 20, 33, 34, 66, 67, 99, 100}, []int{1, 0, 0, 1, 0, 1, 0, 0}},
		{3, []int{10, 100}, []int{1, 2}},
		{10, []int{10, 11, 20, 21, 100}, []int{1, 1, 0, 1, 7}},
		{99, []int{1, 2, 100}, []int{1, 1, 97}},
		{100, []int{1, 2, 100}, []int{1, 1, 98}},
		{101, []int{1, 2, 100}, []int{2, 1, 98}},
		{4096, []int{1, 99, 100}, []int{41, 4015, 40}},
	} {
		waves := plan(t, 9, upTo(c.n), c.parts)
		if l := lengths(waves); !slices.Equal(l, c.want) {
			t.Errorf("%d devices by %v: waves of %v, not %v", c.n, c.parts, l, c.want)
		}
	}
}

// P15.2, R2: of no devices, nil or empty, there are as many waves, with nothing in them.
func TestPlanOfNoDevices(t *testing.T) {
	for _, devices := range [][]int{nil, {}} {
		for _, parts := range somePartss {
			waves, e := wave.Plan(1, devices, parts)
			if e != api.OK || len(waves) != len(parts) || len(slices.Concat(waves...)) != 0 {
				t.Errorf("Plan of none by %v: %v, %d", parts, waves, e)
			}
		}
	}
}

// permutations calls of with each order of a list.
func permutations(l []int, k int, of func([]int)) {
	if k == len(l) {
		of(l)
		return
	}
	for i := k; i < len(l); i++ {
		l[k], l[i] = l[i], l[k]
		permutations(l, k+1, of)
		l[k], l[i] = l[i], l[k]
	}
}

// P15.4: it does not hang on the order of the devices.
func TestPlanOfAnotherOrder(t *testing.T) {
	parts := []int{20, 50, 100}
	want, _ := wave.Plan(5, []int{1, 2, 300, 4000, 4096, 77}, parts)
	permutations([]int{1, 2, 300, 4000, 4096, 77}, 0, func(l []int) {
		if waves, e := wave.Plan(5, l, parts); e != api.OK || !sameWaves(waves, want) {
			t.Fatalf("Plan of %v: %v, %d, not %v", l, waves, e, want)
		}
	})
	chance := rand.New(rand.NewSource(2))
	for _, n := range []int{20, 100, 4096} {
		devices := upTo(n)
		want, _ := wave.Plan(n, devices, parts)
		for range 20 {
			if waves, e := wave.Plan(n, shuffled(chance, devices), parts); e != api.OK || !sameWaves(waves, want) {
				t.Fatalf("Plan of %d devices in another order is another one, %d", n, e)
			}
		}
	}
}

// P15.2: a plan is another one in another campaign, though the devices are the same.
func TestPlanOfAnotherCampaign(t *testing.T) {
	a, _ := wave.Plan(1, upTo(100), []int{100})
	for _, campaign := range campaigns[1:] {
		if b, _ := wave.Plan(campaign, upTo(100), []int{100}); sameWaves(a, b) {
			t.Errorf("the campaigns 1 and %d have one order", campaign)
		}
	}
}

// P15.2: what may not be, one thing at a time and at the edges.
func TestPlanErrArg(t *testing.T) {
	for _, x := range odd {
		plan(t, x, []int{1, 2}, []int{50, 100})
		plan(t, x, nil, []int{100})
		plan(t, 1, []int{x}, []int{100})
		plan(t, 1, []int{x, 17, 18}, []int{100})
		plan(t, 1, []int{17, x, 18}, []int{100})
		plan(t, 1, []int{17, 18, x}, []int{100})
		plan(t, 1, []int{17, 18}, []int{x})
		plan(t, 1, []int{17, 18}, []int{x, 100})
		plan(t, 1, nil, []int{1, x})
	}
	for _, parts := range [][]int{nil, {}, {50}, {50, 50, 100}, upTo(100), {1, 2, 3, 4, 5, 6, 7, 8, 100}} {
		if waves, e := wave.Plan(1, upTo(3), parts); e != api.ErrArg || waves != nil {
			t.Errorf("Plan by %v: %v, %d", parts, waves, e)
		}
	}
}

// P15.2: a device that comes twice, wherever.
func TestPlanErrThere(t *testing.T) {
	for n := 2; n < 12; n++ {
		for i := range n {
			for j := range i {
				devices := upTo(n)
				devices[i] = devices[j]
				if waves, e := wave.Plan(1, devices, []int{50, 100}); e != api.ErrThere || waves != nil {
					t.Fatalf("Plan of %v: %v, %d", devices, waves, e)
				}
			}
		}
	}
	for _, d := range []int{1, 255, 256, 4095, 4096} {
		plan(t, maxNumber, []int{d, d}, []int{100})
		plan(t, 1, []int{d, d, d}, []int{100})
		plan(t, 1, append(upTo(maxDevice), d), []int{100})
	}
	if _, e := wave.Plan(1, slices.Repeat([]int{5}, 1<<20), []int{100}); e != api.ErrThere {
		t.Errorf("Plan of one device, many times: %d", e)
	}
}

// P15.2, R1: where a device comes twice and another thing may not be, that is answered, wherever it stands.
func TestPlanErrorsInOrder(t *testing.T) {
	for _, c := range []struct {
		campaign       int
		devices, parts []int
	}{
		{0, []int{1, 1}, []int{100}},
		{maxNumber + 1, []int{1, 1}, []int{100}},
		{1, []int{1, 1}, nil},
		{1, []int{1, 1}, []int{50}},
		{1, []int{1, 1, 0}, []int{100}},
		{1, []int{0, 1, 1}, []int{100}},
		{1, []int{1, 0, 1}, []int{100}},
		{1, []int{0, 0}, []int{100}},
		{1, []int{4097, 4097}, []int{100}},
		{1, []int{4096, 4096, 4097}, []int{100}},
		{1, append(slices.Repeat([]int{5}, 10000), -1), []int{100}},
	} {
		if waves, e := wave.Plan(c.campaign, c.devices, c.parts); e != api.ErrArg || waves != nil {
			t.Errorf("Plan(%d, %d devices, %v): %v, %d", c.campaign, len(c.devices), c.parts, waves, e)
		}
	}
}

// R3: what is handed in stays as it is, also behind its end, and what is told is the caller's own, wave by wave.
func TestPlanSharesNothing(t *testing.T) {
	for n := range 30 {
		for _, parts := range somePartss {
			room := append(shuffled(rand.New(rand.NewSource(3)), upTo(n)), -7, -7, -7, -7)
			partRoom := append(slices.Clone(parts), -7, -7)
			devices, p := room[:n], partRoom[:len(parts)]
			before, partsBefore := slices.Clone(room), slices.Clone(partRoom)
			waves, _ := wave.Plan(3, devices, p)
			for k := range waves {
				others := planned(3, devices, p)
				others[k] = nil
				for i := range waves[k] {
					waves[k][i] = -1
				}
				_ = append(waves[k], -2, -3, -4)
				waves[k] = nil
				for j := range k {
					others[j] = nil
				}
				if !sameWaves(waves, others) {
					t.Fatalf("%d devices by %v: the wave %d is shared: %v", n, parts, k, waves)
				}
			}
			if !slices.Equal(room, before) || !slices.Equal(partRoom, partsBefore) {
				t.Fatalf("%d devices by %v: an argument is shared", n, parts)
			}
		}
	}
}

// R4: a plan is the same again, whatever was planned between.
func TestPlanAgain(t *testing.T) {
	want, _ := wave.Plan(1, upTo(300), []int{10, 100})
	for campaign := range 50 {
		wave.Plan(campaign, upTo(campaign), []int{100})
		if waves, e := wave.Plan(1, upTo(300), []int{10, 100}); e != api.OK || !sameWaves(waves, want) {
			t.Fatalf("Plan is another one behind that of %d", campaign)
		}
	}
}

// P15.2: plans by chance, of few devices, so that one comes twice often, and of numbers at the edges.
func TestPlanByChance(t *testing.T) {
	chance := rand.New(rand.NewSource(4))
	count := map[api.Errno]int{}
	for range 20000 {
		campaign := 1 + chance.Intn(maxNumber)
		if chance.Intn(20) == 0 {
			campaign = odd[chance.Intn(len(odd))]
		}
		devices := make([]int, chance.Intn(20))
		for i := range devices {
			devices[i] = 1 + chance.Intn(200)
			if chance.Intn(200) == 0 {
				devices[i] = odd[chance.Intn(len(odd))]
			}
		}
		parts := somePartss[chance.Intn(len(somePartss))]
		if chance.Intn(20) == 0 {
			parts = append([]int{odd[chance.Intn(len(odd))]}, parts...)
		}
		plan(t, campaign, devices, parts)
		count[planError(campaign, devices, parts)]++
	}
	for _, e := range []api.Errno{api.OK, api.ErrArg, api.ErrThere} {
		if count[e] < 1000 {
			t.Errorf("only %d plans of the error %d", count[e], e)
		}
	}
}

// FuzzPlan: plans of any bytes, two of which are a device.
func FuzzPlan(f *testing.F) {
	f.Add(1, []byte{1, 0, 2, 0, 3, 0}, []byte{10, 100})
	f.Add(maxNumber, []byte{0, 16, 255, 15}, []byte{100})
	f.Add(7, []byte{1, 0, 1, 0}, []byte{50, 100})
	f.Fuzz(func(t *testing.T, campaign int, b, c []byte) {
		var devices, parts []int
		for i := 0; i+1 < len(b); i += 2 {
			devices = append(devices, int(b[i])+int(b[i+1])<<8)
		}
		for _, x := range c {
			parts = append(parts, int(x))
		}
		if waves := plan(t, campaign, devices, parts); waves != nil {
			theorem(t, devices, parts, waves)
		}
	})
}

package wave_test

import (
	"math/big"
	"slices"
	"sort"

	"pennant/api"
)

// This is the chapter again, by other means: bytes are laid out by hand, the sum goes bit by bit, waves are filled device by device, what is judged is reckoned in whole numbers without bounds.

const (
	maxNumber = 1 << 30
	maxDevice = 4096
)

// sum is a text's of chapter 2, bit by bit.
func sum(b []byte) uint32 {
	s := uint64(0xB704CE)
	for _, x := range b {
		s ^= uint64(x) << 16
		for range 8 {
			s *= 2
			if s>>24&1 == 1 {
				s ^= 0x1864CFB
			}
		}
	}
	return uint32(s)
}

func fourBytes(n int) []byte {
	return []byte{byte(n % 256), byte(n / 256 % 256), byte(n / 65536 % 256), byte(n / 16777216)}
}

// lot is a device's in a campaign.
func lot(campaign, device int) uint32 {
	return sum(append(fourBytes(campaign), fourBytes(device)...))
}

// partsMay tells whether parts may be.
func partsMay(parts []int) bool {
	if len(parts) < 1 || len(parts) > 8 || parts[len(parts)-1] != 100 {
		return false
	}
	for i, p := range parts {
		if p < 1 || p > 100 || i > 0 && parts[i-1] >= p {
			return false
		}
	}
	return true
}

// planError is the error of a plan, the one that is named first.
func planError(campaign int, devices, parts []int) api.Errno {
	seen := map[int]int{}
	for _, d := range devices {
		if d < 1 || d > maxDevice {
			return api.ErrArg
		}
		seen[d]++
	}
	if campaign < 1 || campaign > maxNumber || !partsMay(parts) {
		return api.ErrArg
	}
	for _, n := range seen {
		if n > 1 {
			return api.ErrThere
		}
	}
	return api.OK
}

// ordered are devices as a campaign has them: rising ones, put stably in the order of their lots.
func ordered(campaign int, devices []int) []int {
	l := slices.Clone(devices)
	sort.Ints(l)
	sort.SliceStable(l, func(i, j int) bool { return lot(campaign, l[i]) < lot(campaign, l[j]) })
	return l
}

// end is how many of n devices there must be, so that they are a part of them or more.
func end(part, n int) int {
	k := 0
	for 100*k < part*n {
		k++
	}
	return k
}

// planned are the waves of a plan that may be: each device goes into the first wave that is not full yet.
func planned(campaign int, devices, parts []int) [][]int {
	waves := make([][]int, len(parts))
	k := 0
	for i, d := range ordered(campaign, devices) {
		for i >= end(parts[k], len(devices)) {
			k++
		}
		waves[k] = append(waves[k], d)
	}
	return waves
}

// sameWaves tells whether the same devices are in the same waves, in the same order.
func sameWaves(a, b [][]int) bool {
	return slices.EqualFunc(a, b, func(x, y []int) bool { return slices.Equal(x, y) })
}

// more tells whether 100 times a is more than b times n (1), as much (0), or less (-1).
func more(a, b, n int) int {
	x := new(big.Int).Mul(big.NewInt(100), big.NewInt(int64(a)))
	y := new(big.Int).Mul(big.NewInt(int64(b)), big.NewInt(int64(n)))
	return x.Cmp(y)
}

// judged is what becomes of a wave, and the error.
func judged(n, good, bad, pass, halt int) (int, api.Errno) {
	bounds := []struct{ x, most int }{{n, maxNumber}, {good, maxNumber}, {bad, maxNumber}, {pass, 100}, {halt, 100}}
	for _, b := range bounds {
		if b.x < 0 || b.x > b.most {
			return 0, api.ErrArg
		}
	}
	if more(bad, halt, n) == 1 {
		return api.Halt, api.OK
	}
	if more(good, pass, n) != -1 {
		return api.Pass, api.OK
	}
	return api.Wait, api.OK
}

// upTo are the numbers from 1 to n.
func upTo(n int) []int {
	l := make([]int, n)
	for i := range l {
		l[i] = i + 1
	}
	return l
}

package wave

import (
	"cmp"
	"maps"
	"slices"

	"pennant/crc"
)

// lotOf is by what a device has its place in a campaign: another one in each, so that the same devices are not always the first.
func lotOf(campaign, device int) uint32 {
	var b [8]byte
	for i := range 4 {
		b[i], b[4+i] = byte(campaign>>(8*i)), byte(device>>(8*i))
	}
	return crc.Sum(b[:])
}

// lotsOf are the devices' lots, and whether each device comes once; if one does not, there are none.
func lotsOf(campaign int, devices []int) (map[int]uint32, bool) {
	lots := map[int]uint32{}
	for _, d := range devices {
		if _, twice := lots[d]; twice {
			return nil, false
		}
		lots[d] = lotOf(campaign, d)
	}
	return lots, true
}

// inOrder are the devices by their lots, of the same lot by rising devices.
func inOrder(lots map[int]uint32) []int {
	return slices.SortedFunc(maps.Keys(lots), func(a, b int) int {
		return cmp.Or(cmp.Compare(lots[a], lots[b]), cmp.Compare(a, b))
	})
}

// cut are the waves of devices that are in order; each is memory of its own.
func cut(devices, parts []int) [][]int {
	var waves [][]int
	from := 0
	for _, p := range parts {
		to := (p*len(devices) + all - 1) / all
		waves = append(waves, slices.Clone(devices[from:to]))
		from = to
	}
	return waves
}

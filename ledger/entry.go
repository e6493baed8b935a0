package ledger

import (
	"cmp"
	"slices"

	"pennant/api"
	"pennant/pack"
)

// attempt is what an entry tells of: one of a device, by its lease.
type attempt struct {
	device, lease int
}

func attemptOf(e api.Entry) attempt { return attempt{e.Device, e.Lease} }

func within(n, least, most int) bool { return n >= least && n <= most }

// mayBe tells whether an entry may be.
func mayBe(e api.Entry) bool {
	return within(e.Device, 1, maxDevice) && within(e.Lease, 1, maxEntries) &&
		within(e.Version, 1, api.MaxVersion) && within(e.Outcome, api.Committed, api.Refused)
}

// inOrder are the entries that are asked for, by rising devices, of one device by rising leases.
func (l *Ledger) inOrder(asked func(e api.Entry) bool) []api.Entry {
	var list []api.Entry
	for _, e := range l.entries {
		if asked(e) {
			list = append(list, e)
		}
	}
	slices.SortFunc(list, func(a, b api.Entry) int {
		return cmp.Or(cmp.Compare(a.Device, b.Device), cmp.Compare(a.Lease, b.Lease))
	})
	return list
}

func setOf(devices []int) map[int]struct{} {
	set := map[int]struct{}{}
	for _, d := range devices {
		set[d] = struct{}{}
	}
	return set
}

// code is an entry as bytes, for the digest: each number from 0 on, so that its width is the chapter's.
func code(e api.Entry) []byte {
	fields := []api.Field{numberOf(2), numberOf(4), numberOf(4), numberOf(1)}
	b, _ := pack.Encode(fields, []api.Value{ // the numbers of an entry that may be fit
		{N: uint64(e.Device)}, {N: uint64(e.Lease)}, {N: uint64(e.Version)}, {N: uint64(e.Outcome)},
	})
	return b
}

// numberOf is the field of a number in so many bytes.
func numberOf(bytes int) api.Field {
	return api.Field{Kind: api.FieldNumber, Max: 1<<(8*bytes) - 1}
}

package outbox

import (
	"slices"

	"pennant/api"
	"pennant/crc"
	"pennant/pack"
)

const (
	maxSeq      = 1 << 30
	numbersSize = 17 // bytes of an entry's numbers
	noughts     = 11 // bytes behind them, which tell an entry that was programmed by halves
	sumSize     = 3
	sealSize    = numbersSize + noughts + sumSize
	entrySize   = sealSize + 1

	taken = 0 // the last byte of an entry that waits no more
)

// entry is a report by its number, and where it stands.
type entry struct {
	seq    int
	report api.Report
	at     place
}

// noEntry is the last one where there is none, ahead of all places.
func noEntry() entry { return entry{at: place{i: -1}} }

// numberFields are those of an entry's numbers. They begin with 0, so that pack takes nothing off them.
func numberFields() []api.Field {
	var l []api.Field
	for _, most := range [...]uint64{maxSeq, api.MaxNumber, api.MaxNumber, api.MaxVersion, api.Refused} {
		l = append(l, api.Field{Kind: api.FieldNumber, Max: most})
	}
	return l
}

// encode is an entry's bytes, but the last; decode is the entry of such bytes, and false, if they are none's.
func (x entry) encode() []byte {
	r := x.report
	var v []api.Value
	for _, n := range [...]int{x.seq, r.Campaign, r.Lease, r.Version, r.Outcome} {
		v = append(v, api.Value{N: uint64(n)})
	}
	b, _ := pack.Encode(numberFields(), v) // the numbers of a report that may be fit
	return crc.Seal(append(b, make([]byte, noughts)...))
}

func decode(b []byte) (entry, bool) {
	text, whole := crc.Open(b)
	if !whole || !allAre(text[numbersSize:], 0) {
		return entry{}, false
	}
	v, e := pack.Decode(numberFields(), text[:numbersSize])
	if e != api.OK {
		return entry{}, false
	}
	n := func(i int) int { return int(v[i].N) }
	x := entry{seq: n(0), report: api.Report{Campaign: n(1), Lease: n(2), Version: n(3), Outcome: n(4)}}
	return x, x.seq >= 1 && Right(x.report)
}

// allAre tells whether bytes are all x.
func allAre(b []byte, x byte) bool {
	odd := func(y byte) bool { return y != x }
	return !slices.ContainsFunc(b, odd)
}

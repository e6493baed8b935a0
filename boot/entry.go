package boot

import (
	"slices"

	"pennant/api"
	"pennant/crc"
	"pennant/pack"
)

const (
	maxGeneration = 1 << 30
	numbersSize   = 15 // bytes of an entry's numbers
	noughts       = 14 // bytes behind them, which tell an entry that was programmed by halves
	sumSize       = 3
	entrySize     = numbersSize + noughts + sumSize
)

// entry is a record, and how many were saved, with it.
type entry struct {
	generation int
	record     api.Boot
}

// firstEntry is what there is ahead of any Save; it stands nowhere.
func firstEntry() entry { return entry{record: api.Boot{Trial: noTrial}} }

// numberFields are those of an entry's numbers. They begin with 0, so that pack takes nothing off them.
func numberFields() []api.Field {
	var l []api.Field
	for _, most := range [...]uint64{maxGeneration, 1, 2, maxTries, api.MaxVersion, api.MaxVersion} {
		l = append(l, api.Field{Kind: api.FieldNumber, Max: most})
	}
	return l
}

// encode is an entry's bytes; decode is the entry of such bytes, and false, if they are none's.
func (x entry) encode() []byte {
	r := x.record
	var v []api.Value
	for _, n := range [...]int{x.generation, r.Active, r.Trial + 1, r.Tries, r.Versions[0], r.Versions[1]} {
		v = append(v, api.Value{N: uint64(n)})
	}
	b, _ := pack.Encode(numberFields(), v) // the numbers of a record that may be fit
	return crc.Seal(append(b, make([]byte, noughts)...))
}

func decode(b []byte) (entry, bool) {
	text, whole := crc.Open(b)
	if !whole || !allAre(text[numbersSize:], 0) {
		return entry{}, false
	}
	v, e := pack.Decode(numberFields(), text[:numbersSize])
	if e != api.OK {
		return entry{}, false
	}
	n := func(i int) int { return int(v[i].N) }
	x := entry{generation: n(0), record: api.Boot{Active: n(1), Trial: n(2) - 1, Tries: n(3), Versions: [2]int{n(4), n(5)}}}
	return x, x.generation >= 1 && Right(x.record)
}

// allAre tells whether bytes are all x.
func allAre(b []byte, x byte) bool {
	odd := func(y byte) bool { return y != x }
	return !slices.ContainsFunc(b, odd)
}

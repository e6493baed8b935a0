package pack

import (
	"math/bits"

	"pennant/api"
)

// mostOfFields is Most of fields, and whether they may be; depth is how many lists of fields they stand in, with their own.
// The depth is asked ahead of all else, as fields may hold themselves; Most is asked at every depth, so that no sum wraps round.
func mostOfFields(l []api.Field, depth int) (uint64, bool) {
	if depth > api.MaxDepth || len(l) < 1 || len(l) > api.MaxFields {
		return 0, false
	}
	var most uint64
	for _, f := range l {
		n, may := mostOfField(f, depth)
		if !may {
			return 0, false
		}
		most += n
	}
	if most > api.MaxBytes {
		return 0, false
	}
	return most, true
}

func mostOfField(f api.Field, depth int) (uint64, bool) {
	if f.Min > f.Max {
		return 0, false
	}
	if f.Kind != api.FieldNumber && f.Max > api.MaxWide {
		return 0, false
	}
	wide := uint64(width(f))
	switch f.Kind {
	case api.FieldNumber:
		return wide, len(f.Of) == 0
	case api.FieldBytes:
		return wide + f.Max, len(f.Of) == 0
	case api.FieldList:
		of, may := mostOfFields(f.Of, depth+1)
		return wide + f.Max*of, may
	}
	return 0, false
}

// width is in how many bytes a number of the field, or how much of it there is, stands.
func width(f api.Field) int { return max(1, (bits.Len64(f.Max-f.Min)+7)/8) }

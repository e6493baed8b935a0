package pack

import "pennant/api"

// appendRecord puts a record behind bytes; false, if it does not fit the fields.
func appendRecord(b []byte, l []api.Field, v []api.Value) ([]byte, bool) {
	if len(v) != len(l) {
		return nil, false
	}
	for i, f := range l {
		var fits bool
		if b, fits = appendValue(b, f, v[i]); !fits {
			return nil, false
		}
	}
	return b, true
}

// appendValue needs no choice of kinds: what the field's kind has not, is empty, once its amount is told.
func appendValue(b []byte, f api.Field, v api.Value) ([]byte, bool) {
	n, fits := amount(f, v)
	if !fits || n < f.Min || n > f.Max {
		return nil, false
	}
	b = appendNumber(b, n-f.Min, width(f))
	b = append(b, v.B...)
	for _, record := range v.L {
		if b, fits = appendRecord(b, f.Of, record); !fits {
			return nil, false
		}
	}
	return b, true
}

// amount is what a field's Min and Max bound: a number, or how many bytes or records; false, if there is what the kind has not.
func amount(f api.Field, v api.Value) (uint64, bool) {
	n, size, count := v.N, uint64(len(v.B)), uint64(len(v.L))
	switch f.Kind {
	case api.FieldNumber:
		return n, size == 0 && count == 0
	case api.FieldBytes:
		return size, n == 0 && count == 0
	default:
		return count, n == 0 && size == 0
	}
}

// appendNumber puts a number behind bytes, its lowest byte first.
func appendNumber(b []byte, n uint64, wide int) []byte {
	for range wide {
		b = append(b, byte(n))
		n >>= 8
	}
	return b
}

package pack

import (
	"slices"

	"pennant/api"
)

// reader takes values off the front of the bytes that are left.
type reader struct {
	left []byte
}

// takeList takes n things, one by one, and ends at the first that is none.
// It makes no room ahead, as n comes from bytes that may be no code.
func takeList[T any](n int, takeOne func(i int) (T, bool)) ([]T, bool) {
	var list []T
	for i := range n {
		one, is := takeOne(i)
		if !is {
			return nil, false
		}
		list = append(list, one)
	}
	return list, true
}

func (r *reader) takeRecord(l []api.Field) ([]api.Value, bool) {
	return takeList(len(l), func(i int) (api.Value, bool) { return r.takeValue(l[i]) })
}

func (r *reader) takeValue(f api.Field) (api.Value, bool) {
	var v api.Value
	n, is := r.takeAmount(f)
	if !is {
		return v, false
	}
	switch f.Kind {
	case api.FieldNumber:
		v.N = n
	case api.FieldBytes:
		var b []byte
		b, is = r.takeBytes(int(n))
		v.B = slices.Clone(b)
	default:
		v.L, is = takeList(int(n), func(int) ([]api.Value, bool) { return r.takeRecord(f.Of) })
	}
	return v, is
}

// takeAmount takes what the field's Min and Max bound: a number, or how many bytes or records there are.
func (r *reader) takeAmount(f api.Field) (uint64, bool) {
	b, is := r.takeBytes(width(f))
	if !is {
		return 0, false
	}
	var n uint64
	for i, x := range b {
		n |= uint64(x) << (8 * i)
	}
	if n > f.Max-f.Min {
		return 0, false
	}
	return f.Min + n, true
}

// takeBytes takes a piece of the bytes themselves: it is not to be told as it is.
func (r *reader) takeBytes(n int) ([]byte, bool) {
	if n > len(r.left) {
		return nil, false
	}
	b := r.left[:n]
	r.left = r.left[n:]
	return b, true
}

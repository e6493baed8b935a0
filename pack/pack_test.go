package pack_test

import (
	"bytes"
	"fmt"
	"math"
	"math/big"
	"math/rand"
	"slices"
	"testing"

	"pennant/api"
	"pennant/pack"
)

func number(min, max uint64) api.Field {
	return api.Field{Kind: api.FieldNumber, Min: min, Max: max}
}

func text(min, max uint64) api.Field {
	return api.Field{Kind: api.FieldBytes, Min: min, Max: max}
}

func list(min, max uint64, of ...api.Field) api.Field {
	return api.Field{Kind: api.FieldList, Min: min, Max: max, Of: of}
}

func fields(l ...api.Field) []api.Field { return l }

func record(v ...api.Value) []api.Value { return v }

func times(n int, f api.Field) []api.Field { return slices.Repeat(fields(f), n) }

// within is a number within as many lists of fields as depth says.
func within(depth int) []api.Field {
	l := fields(number(0, 9))
	for range depth - 1 {
		l = fields(list(0, 2, l...))
	}
	return l
}

// endless is n fields, each a list of all of them.
func endless(n int) []api.Field {
	l := make([]api.Field, n)
	for i := range l {
		l[i] = api.Field{Kind: api.FieldList, Max: 1, Of: l}
	}
	return l
}

// same tells whether two records are alike, nil and empty being the same.
func same(v, w []api.Value) bool {
	return slices.EqualFunc(v, w, func(x, y api.Value) bool {
		return x.N == y.N && bytes.Equal(x.B, y.B) && slices.EqualFunc(x.L, y.L, same)
	})
}

func sameFields(l, m []api.Field) bool {
	return slices.EqualFunc(l, m, func(x, y api.Field) bool {
		return x.Kind == y.Kind && x.Min == y.Min && x.Max == y.Max && sameFields(x.Of, y.Of)
	})
}

func copyRecord(v []api.Value) []api.Value {
	w := slices.Clone(v)
	for i := range w {
		w[i].B = bytes.Clone(w[i].B)
		w[i].L = slices.Clone(w[i].L)
		for j := range w[i].L {
			w[i].L[j] = copyRecord(w[i].L[j])
		}
	}
	return w
}

func copyFields(l []api.Field) []api.Field {
	m := slices.Clone(l)
	for i := range m {
		m[i].Of = copyFields(m[i].Of)
	}
	return m
}

// spoilRecord turns all that a record holds.
func spoilRecord(v []api.Value) {
	for i := range v {
		v[i].N = ^v[i].N
		for j := range v[i].B {
			v[i].B[j] = ^v[i].B[j]
		}
		for _, w := range v[i].L {
			spoilRecord(w)
		}
	}
}

// wide is the width of Max less Min, by numbers that have no bound.
func wide(f api.Field) int {
	n := new(big.Int).Sub(new(big.Int).SetUint64(f.Max), new(big.Int).SetUint64(f.Min))
	return max(1, len(n.Bytes()))
}

// most is the chapter's Most, of fields that may be, by numbers that have no bound.
func most(l []api.Field) *big.Int {
	sum := new(big.Int)
	for _, f := range l {
		sum.Add(sum, big.NewInt(int64(wide(f))))
		if f.Kind == api.FieldBytes {
			sum.Add(sum, new(big.Int).SetUint64(f.Max))
		}
		if f.Kind == api.FieldList {
			sum.Add(sum, new(big.Int).Mul(new(big.Int).SetUint64(f.Max), most(f.Of)))
		}
	}
	return sum
}

// fits tells, by the chapter's words, whether a record fits fields that may be.
func fits(l []api.Field, v []api.Value) bool {
	if len(l) != len(v) {
		return false
	}
	for i, f := range l {
		x := v[i]
		n, b, c := x.N, uint64(len(x.B)), uint64(len(x.L))
		of := map[int][3]uint64{api.FieldNumber: {n, b, c}, api.FieldBytes: {b, n, c}, api.FieldList: {c, n, b}}[f.Kind]
		if of[0] < f.Min || of[0] > f.Max || of[1] != 0 || of[2] != 0 {
			return false
		}
		for _, w := range x.L {
			if !fits(f.Of, w) {
				return false
			}
		}
	}
	return true
}

// code is the chapter's Encode, of a record that fits.
func code(l []api.Field, v []api.Value) []byte {
	var b []byte
	for i, f := range l {
		n := v[i].N
		if f.Kind == api.FieldBytes {
			n = uint64(len(v[i].B))
		}
		if f.Kind == api.FieldList {
			n = uint64(len(v[i].L))
		}
		first := new(big.Int).Sub(new(big.Int).SetUint64(n), new(big.Int).SetUint64(f.Min)).FillBytes(make([]byte, wide(f)))
		slices.Reverse(first)
		b = append(append(b, first...), v[i].B...)
		for _, w := range v[i].L {
			b = append(b, code(f.Of, w)...)
		}
	}
	return b
}

func refuseEncode(t *testing.T, l []api.Field, v []api.Value, why string) {
	t.Helper()
	if b, e := pack.Encode(l, v); e != api.ErrArg || len(b) != 0 {
		t.Errorf("%s: Encode is %v, %v", why, b, e)
	}
}

func refuseDecode(t *testing.T, l []api.Field, b []byte, want api.Errno, why string) {
	t.Helper()
	if v, e := pack.Decode(l, b); e != want || len(v) != 0 {
		t.Errorf("%s: Decode(%x) is %v, %v, not %v", why, b, v, e, want)
	}
}

// roundTrip asks all that P3.2 to P3.4 say of one record that fits, and tells its code.
func roundTrip(t *testing.T, l []api.Field, v []api.Value) []byte {
	t.Helper()
	b, e := pack.Encode(l, v)
	if e != api.OK || !bytes.Equal(b, code(l, v)) {
		t.Fatalf("Encode(%v, %v): %x, %v, not %x", l, v, b, e, code(l, v))
	}
	if len(b) > pack.Most(l) {
		t.Fatalf("Encode(%v, %v): %d bytes, Most %d", l, v, len(b), pack.Most(l))
	}
	w, e := pack.Decode(l, b)
	if e != api.OK || !same(v, w) || !fits(l, w) {
		t.Fatalf("Decode(%v, %x): %v, %v, not %v", l, b, w, e, v)
	}
	return b
}

// P3.1: fields that may be, and how many bytes a record of them has at most.
func TestRightAndMost(t *testing.T) {
	const all = math.MaxUint64
	var tests = []struct {
		name string
		l    []api.Field
		most int
	}{
		{"the chapter's", fields(number(1, 300), text(0, 3)), 2 + 1 + 3},
		{"one number", fields(number(0, 0)), 1},
		{"one that is the greatest", fields(number(all, all)), 1},
		{"width 1", fields(number(0, 255)), 1},
		{"width 2", fields(number(0, 256)), 2},
		{"width of Max less Min", fields(number(1, 256)), 1},
		{"width 2 of far ones", fields(number(all-256, all)), 2},
		{"width 2, most", fields(number(0, 1<<16-1)), 2},
		{"width 3", fields(number(0, 1<<16)), 3},
		{"width 3, most", fields(number(0, 1<<24-1)), 3},
		{"width 4", fields(number(0, 1<<24)), 4},
		{"width 4, most", fields(number(0, 1<<32-1)), 4},
		{"width 5", fields(number(0, 1<<32)), 5},
		{"width 5, most", fields(number(0, 1<<40-1)), 5},
		{"width 6", fields(number(0, 1<<40)), 6},
		{"width 6, most", fields(number(0, 1<<48-1)), 6},
		{"width 7", fields(number(0, 1<<48)), 7},
		{"width 7, most", fields(number(0, 1<<56-1)), 7},
		{"width 8", fields(number(0, 1<<56)), 8},
		{"all numbers", fields(number(0, all)), 8},
		{"all numbers but 0", fields(number(1, all)), 8},
		{"16 fields", times(16, number(0, all)), 128},
		{"no bytes", fields(text(0, 0)), 1},
		{"bytes of one length", fields(text(7, 7)), 1 + 7},
		{"the most bytes", fields(text(0, 65536)), 3 + 65536},
		{"the most bytes, not none", fields(text(1, 65536)), 2 + 65536},
		{"only the most bytes", fields(text(65536, 65536)), 1 + 65536},
		{"a list", fields(list(0, 2, number(0, 9))), 1 + 2},
		{"a list of no records", fields(list(0, 0, number(0, 9))), 1},
		{"a list of one length", fields(list(5, 5, number(0, 256), text(0, 3))), 1 + 5*6},
		{"the longest list", fields(list(0, 65536, number(0, 9))), 3 + 65536},
		{"only the longest list", fields(list(65536, 65536, times(15, number(0, 9))...)), 1 + 15*65536},
		{"a list of 16 fields", fields(list(0, 3, times(16, number(0, 9))...)), 1 + 3*16},
		{"four deep", within(4), 1 + 2*(1+2*(1+2*1))},
		{"16 fields four deep", times(16, within(4)[0]), 16 * 15},
		{"just 2^20", fields(list(1, 65536, times(15, number(0, 0))...), text(0, 65532)), 1 << 20},
		{"just 2^20 within a list", fields(list(0, 0, list(1, 65536, times(15, number(0, 0))...), text(0, 65532))), 1},
		{"an Of that is empty, not nil", fields(api.Field{Kind: api.FieldNumber, Max: 1, Of: fields()}, api.Field{Kind: api.FieldBytes, Max: 1, Of: fields()}), 1 + 1 + 1},
	}
	for _, x := range tests {
		if !pack.Right(x.l) || pack.Most(x.l) != x.most {
			t.Errorf("%s: Right %v, Most %d, not %d", x.name, pack.Right(x.l), pack.Most(x.l), x.most)
		}
	}
}

// wrongFields are fields that may not be, by what is wrong with them.
func wrongFields() map[string][]api.Field {
	const all = math.MaxUint64
	wrong := map[string][]api.Field{
		"nil":                          nil,
		"none":                         {},
		"17":                           times(17, number(0, 9)),
		"zero fields":                  make([]api.Field, 1),
		"kind 4":                       {{Kind: 4}},
		"kind 4 with fields":           {{Kind: 4, Max: 1, Of: fields(number(0, 9))}},
		"kind -1":                      {{Kind: -1, Max: 1}},
		"a number, Min above":          {number(2, 1)},
		"a number, Min far above":      {number(all, 0)},
		"a number with fields":         {{Kind: api.FieldNumber, Max: 9, Of: fields(number(0, 9))}},
		"bytes, Min above":             {text(2, 1)},
		"bytes, Max above":             {text(0, 65537)},
		"bytes, Min and Max above":     {text(65537, 65537)},
		"bytes, Max far above":         {text(0, all)},
		"bytes, Max that wraps round":  {text(1, all)},
		"bytes with fields":            {{Kind: api.FieldBytes, Max: 9, Of: fields(number(0, 9))}},
		"a list, Min above":            {list(2, 1, number(0, 9))},
		"a list, Max above":            {list(0, 65537, number(0, 9))},
		"a list, Max far above":        {list(0, all, number(0, 9))},
		"a list, 2^63 of two":          {list(0, 1<<63, number(0, 9), number(0, 9))},
		"a list of no fields":          {list(0, 1)},
		"a list of none of no fields":  {list(0, 0)},
		"a list of 17":                 {list(0, 1, times(17, number(0, 9))...)},
		"a list of a wrong field":      {list(0, 1, number(0, 9), number(2, 1))},
		"none of a wrong field":        {list(0, 0, number(2, 1))},
		"five deep":                    within(5),
		"five deep, the last one":      append(times(15, number(0, 9)), within(5)...),
		"a wrong one behind right":     append(times(15, number(0, 9)), number(2, 1)),
		"a wrong one ahead of right":   append(fields(number(2, 1)), times(15, number(0, 9))...),
		"2^20 and 1":                   {list(1, 65536, times(15, number(0, 0))...), text(0, 65533)},
		"2^20 and 1, of none":          {list(0, 0, list(1, 65536, times(15, number(0, 0))...), text(0, 65533))},
		"16 of 2^16 bytes":             times(16, text(65536, 65536)),
		"2^16 records of 16":           {list(65536, 65536, times(16, number(0, 0))...)},
		"2^48 bytes":                   {list(0, 65536, list(0, 65536, list(0, 65536, number(0, 9))))},
		"2^16 lists of 2^16 less none": {list(0, 65536, list(0, 65536, number(0, 9)))},
		"endless":                      endless(1),
		"endless, 16 at a time":        endless(16),
	}
	return wrong
}

// P3.1, P3.2, P3.3: of fields that may not be nothing is told, whatever stands beside them.
func TestWrongFields(t *testing.T) {
	for name, l := range wrongFields() {
		if pack.Right(l) || pack.Most(l) != 0 {
			t.Errorf("%s: Right %v, Most %d", name, pack.Right(l), pack.Most(l))
		}
		for _, v := range [][]api.Value{nil, {}, {{}}, make([]api.Value, len(l)), make([]api.Value, 16)} {
			refuseEncode(t, l, v, name)
		}
		for _, b := range [][]byte{nil, {}, {0}, make([]byte, len(l)), make([]byte, 100)} {
			refuseDecode(t, l, b, api.ErrArg, name)
		}
	}
}

// P3.2, P3.3: codes that are known.
func TestKnownCodes(t *testing.T) {
	const all = math.MaxUint64
	var tests = []struct {
		l []api.Field
		v []api.Value
		b string
	}{
		{fields(number(1, 300), text(0, 3)), record(api.Value{N: 256}, api.Value{B: []byte("ab")}), "\xff\x00\x02ab"},
		{fields(number(1, 300)), record(api.Value{N: 1}), "\x00\x00"},
		{fields(number(1, 300)), record(api.Value{N: 300}), "\x2b\x01"},
		{fields(number(5, 5)), record(api.Value{N: 5}), "\x00"},
		{fields(number(0, all)), record(api.Value{N: 0x0102030405060708}), "\x08\x07\x06\x05\x04\x03\x02\x01"},
		{fields(number(0, all)), record(api.Value{N: all}), "\xff\xff\xff\xff\xff\xff\xff\xff"},
		{fields(number(all, all)), record(api.Value{N: all}), "\x00"},
		{fields(number(7, 0x10006)), record(api.Value{N: 0x10006}), "\xff\xff"},
		{fields(number(7, 0x10007)), record(api.Value{N: 0x10007}), "\x00\x00\x01"},
		{fields(text(0, 0)), record(api.Value{}), "\x00"},
		{fields(text(2, 2)), record(api.Value{B: []byte("xy")}), "\x00xy"},
		{fields(text(2, 300)), record(api.Value{B: []byte("xyz")}), "\x01\x00xyz"},
		{fields(list(0, 0, number(0, 9))), record(api.Value{}), "\x00"},
		{fields(list(1, 3, number(3, 9), text(0, 1))), record(api.Value{L: [][]api.Value{{{N: 3}, {}}, {{N: 9}, {B: []byte("z")}}}}), "\x01\x00\x00\x06\x01z"},
		{fields(list(0, 1, list(0, 2, list(0, 1, number(0, 9))))), record(api.Value{L: [][]api.Value{{{L: [][]api.Value{{{}}, {{L: [][]api.Value{{{N: 8}}}}}}}}}}), "\x01\x02\x00\x01\x08"},
	}
	for _, x := range tests {
		if b := roundTrip(t, x.l, x.v); string(b) != x.b {
			t.Errorf("Encode(%v, %v): %q, not %q", x.l, x.v, b, x.b)
		}
	}
}

// P3.2: a record that does not fit is refused, wherever it does not.
func TestRecordsThatDoNotFit(t *testing.T) {
	const all = math.MaxUint64
	one := [][]api.Value{{{N: 5}}}
	var tests = []struct {
		name string
		f    api.Field
		v    api.Value
	}{
		{"a number below", number(3, 9), api.Value{N: 2}},
		{"a number above", number(3, 9), api.Value{N: 10}},
		{"a number above, of the same width", number(1, 200), api.Value{N: 201}},
		{"0 below the greatest", number(all, all), api.Value{}},
		{"a number with bytes", number(3, 9), api.Value{N: 3, B: []byte{0}}},
		{"a number with records", number(3, 9), api.Value{N: 3, L: one}},
		{"a number with one that is empty", number(3, 9), api.Value{N: 3, L: [][]api.Value{nil}}},
		{"too few bytes", text(2, 3), api.Value{B: []byte("a")}},
		{"no bytes", text(2, 3), api.Value{}},
		{"too many bytes", text(2, 3), api.Value{B: []byte("abcd")}},
		{"bytes with a number", text(2, 3), api.Value{N: 2, B: []byte("ab")}},
		{"bytes with records", text(2, 3), api.Value{B: []byte("ab"), L: one}},
		{"one byte more than most", text(0, 65536), api.Value{B: make([]byte, 65537)}},
		{"too few records", list(2, 3, number(0, 9)), api.Value{L: one}},
		{"no records", list(2, 3, number(0, 9)), api.Value{}},
		{"too many records", list(2, 3, number(0, 9)), api.Value{L: slices.Repeat(one, 4)}},
		{"one record more than most", list(0, 65536, number(0, 9)), api.Value{L: slices.Repeat(one, 65537)}},
		{"records with a number", list(0, 1, number(0, 9)), api.Value{N: 1, L: one}},
		{"records with bytes", list(0, 1, number(0, 9)), api.Value{B: []byte{0}, L: one}},
		{"a record of no values", list(0, 1, number(0, 9)), api.Value{L: [][]api.Value{nil}}},
		{"a record of too many values", list(0, 1, number(0, 9)), api.Value{L: [][]api.Value{{{}, {}}}}},
		{"a record that does not fit", list(0, 3, number(0, 4)), api.Value{L: [][]api.Value{{{}}, {{N: 5}}, {{}}}}},
		{"a record far within", list(0, 1, list(0, 1, list(0, 1, number(0, 4)))), api.Value{L: [][]api.Value{{{L: [][]api.Value{{{L: one}}}}}}}},
	}
	for _, x := range tests {
		zero := number(0, 0)
		refuseEncode(t, fields(x.f), record(x.v), x.name)
		refuseEncode(t, fields(zero, x.f), record(api.Value{}, x.v), x.name+", last")
		refuseEncode(t, fields(x.f, zero), record(x.v, api.Value{}), x.name+", first")
	}
	two := fields(number(0, 9), number(0, 9))
	for n := range 18 {
		if n != len(two) {
			refuseEncode(t, two, make([]api.Value, n), fmt.Sprint(n, " values of two fields"))
		}
	}
}

// P1: a record that holds itself is gone through no deeper than its fields.
func TestEndlessRecord(t *testing.T) {
	v := make([]api.Value, 1)
	v[0].L = [][]api.Value{v, v}
	for depth := 1; depth <= 5; depth++ {
		refuseEncode(t, within(depth), v, "an endless record")
	}
}

// R2: nil and empty are the same.
func TestNilAndEmpty(t *testing.T) {
	l := fields(number(0, 9), text(0, 3), list(0, 2, number(0, 9)))
	v := record(api.Value{N: 4, B: []byte{}, L: [][]api.Value{}}, api.Value{B: []byte{}, L: [][]api.Value{}}, api.Value{B: []byte{}, L: [][]api.Value{}})
	for _, v := range [][]api.Value{v, {{N: 4}, {}, {}}} {
		if b := roundTrip(t, l, v); string(b) != "\x04\x00\x00" {
			t.Errorf("Encode: %x", b)
		}
	}
	for _, b := range [][]byte{nil, {}} {
		refuseDecode(t, l, b, api.ErrForm, "nothing")
	}
}

// P3.3: bytes that are the code of no record.
func TestBytesThatAreNoCode(t *testing.T) {
	var tests = []struct {
		name string
		l    []api.Field
		b    string
	}{
		{"a number above", fields(number(3, 9)), "\x07"},
		{"a number above, of two bytes", fields(number(1, 300)), "\x2c\x01"},
		{"a number far above", fields(number(1, 300)), "\xff\xff"},
		{"a number above one that is alone", fields(number(5, 5)), "\x01"},
		{"a number that would wrap round", fields(number(2, math.MaxUint64)), "\xfe\xff\xff\xff\xff\xff\xff\xff"},
		{"half a number", fields(number(0, 300)), "\x00"},
		{"bytes above", fields(text(1, 3)), "\x03abcd"},
		{"too few bytes", fields(text(1, 3)), "\x02ab"},
		{"bytes of two lengths", fields(text(2, 2)), "\x01abc"},
		{"records above", fields(list(0, 2, number(0, 9))), "\x03\x00\x00\x00"},
		{"too few records", fields(list(0, 2, number(0, 9))), "\x02\x00"},
		{"many records, none there", fields(list(0, 65536, number(0, 9))), "\x00\x00\x01"},
		{"a record within that is none", fields(list(0, 2, number(0, 9)), number(0, 9)), "\x02\x00\x0a\x00"},
		{"a byte behind a number", fields(number(0, 9)), "\x00\x00"},
		{"a byte behind bytes", fields(text(0, 3)), "\x01ab"},
		{"a byte behind a list", fields(list(0, 2, number(0, 9))), "\x01\x00\x00"},
		{"a byte behind no bytes", fields(text(0, 0)), "\x00\x00"},
	}
	for _, x := range tests {
		refuseDecode(t, x.l, []byte(x.b), api.ErrForm, x.name)
	}
}

// choices is every list that has one of the first choice ahead, one of the second behind it, and so on.
func choices[T any](each [][]T) [][]T {
	all := [][]T{nil}
	for _, next := range each {
		var longer [][]T
		for _, x := range all {
			for _, y := range next {
				longer = append(longer, append(slices.Clone(x), y))
			}
		}
		all = longer
	}
	return all
}

// everyRecord is all records of fields of few values, of texts of the bytes 0 and 1.
func everyRecord(l []api.Field) [][]api.Value {
	var each [][]api.Value
	for _, f := range l {
		each = append(each, everyValue(f))
	}
	return choices(each)
}

func everyValue(f api.Field) []api.Value {
	var all []api.Value
	for n := f.Min; n <= f.Max; n++ {
		switch f.Kind {
		case api.FieldNumber:
			all = append(all, api.Value{N: n})
		case api.FieldBytes:
			for _, b := range choices(slices.Repeat([][]byte{{0, 1}}, int(n))) {
				all = append(all, api.Value{B: b})
			}
		case api.FieldList:
			for _, l := range choices(slices.Repeat([][][]api.Value{everyRecord(f.Of)}, int(n))) {
				all = append(all, api.Value{L: l})
			}
		}
	}
	return all
}

// bytesUpTo calls f with every text of at most n bytes below top.
func bytesUpTo(n int, top byte, f func(b []byte)) {
	var more func(b []byte)
	more = func(b []byte) {
		f(b)
		if len(b) == n {
			return
		}
		for x := range top {
			more(append(b, x))
		}
	}
	more(make([]byte, 0, n))
}

// P3.3, P3.4: of small fields every record, and every text that might be the code of one.
func TestEveryRecordOfSmallFields(t *testing.T) {
	for _, l := range [][]api.Field{
		fields(number(3, 5)),
		fields(number(1, 2), number(0, 1), number(7, 7)),
		fields(text(0, 3), number(0, 1)),
		fields(text(1, 2), text(2, 2)),
		fields(list(0, 2, number(0, 1), text(0, 1))),
		fields(list(1, 2, list(0, 1, number(0, 1)), number(1, 2)), number(0, 1)),
		fields(list(0, 1, list(0, 2, list(1, 1, text(0, 1))))),
	} {
		codes := map[string]bool{}
		for _, v := range everyRecord(l) {
			b := roundTrip(t, l, v)
			if codes[string(b)] {
				t.Fatalf("two records of %v: %x", l, b)
			}
			codes[string(b)] = true
		}
		for b := range codes {
			for n := range len(b) {
				if codes[b[:n]] {
					t.Fatalf("of %v: %x is the beginning of %x", l, b[:n], b)
				}
			}
		}
		found := 0
		bytesUpTo(7, 4, func(b []byte) {
			v, e := pack.Decode(l, b)
			if codes[string(b)] {
				found++
			}
			if e == api.OK {
				// A text may hold other bytes than those of everyRecord.
				if !fits(l, v) || !bytes.Equal(code(l, v), b) {
					t.Fatalf("Decode(%v, %x): %v", l, b, v)
				}
			} else if e != api.ErrForm || len(v) != 0 || codes[string(b)] {
				t.Fatalf("Decode(%v, %x): %v, %v", l, b, v, e)
			}
		})
		if found == 0 {
			t.Errorf("of %v no code was tried", l)
		}
	}
}

// source makes fields and records by chance that is the same in every run.
type source struct{ *rand.Rand }

func (s source) span(top uint64) (uint64, uint64) {
	a, b := s.Uint64()%(top+1), s.Uint64()%(top+1)
	return min(a, b), max(a, b)
}

func (s source) fields(depth int) []api.Field {
	l := make([]api.Field, 1+s.Intn(4))
	for i := range l {
		switch kind := s.Intn(4); {
		case kind == 0 && depth < api.MaxDepth:
			least, most := s.span(3)
			l[i] = list(least, most, s.fields(depth+1)...)
		case kind == 1:
			least, most := s.span(uint64(1) << s.Intn(10))
			l[i] = text(least, most)
		default:
			least, most := s.span(math.MaxUint64 >> (1 + s.Intn(63)))
			l[i] = number(least, most)
		}
	}
	return l
}

func (s source) between(f api.Field) uint64 {
	switch s.Intn(4) {
	case 0:
		return f.Min
	case 1:
		return f.Max
	}
	return f.Min + s.Uint64()%(f.Max-f.Min+1)
}

func (s source) record(l []api.Field) []api.Value {
	v := make([]api.Value, len(l))
	for i, f := range l {
		switch n := s.between(f); f.Kind {
		case api.FieldNumber:
			v[i].N = n
		case api.FieldBytes:
			v[i].B = make([]byte, n)
			s.Read(v[i].B)
		default:
			for range n {
				v[i].L = append(v[i].L, s.record(f.Of))
			}
		}
	}
	return v
}

// P3.1 to P3.4, of fields and records of all kinds.
func TestManyRecords(t *testing.T) {
	s := source{rand.New(rand.NewSource(3))}
	for range 3000 {
		l := s.fields(1)
		if n := most(l); !pack.Right(l) || !n.IsInt64() || int64(pack.Most(l)) != n.Int64() {
			t.Fatalf("%v: Right %v, Most %d, not %v", l, pack.Right(l), pack.Most(l), n)
		}
		v, w := s.record(l), s.record(l)
		b, c := roundTrip(t, l, v), roundTrip(t, l, w)
		if !same(v, w) && (bytes.HasPrefix(b, c) || bytes.HasPrefix(c, b)) {
			t.Fatalf("of %v: one of %x and %x begins the other", l, b, c)
		}
		refuseDecode(t, l, append(bytes.Clone(b), 0), api.ErrForm, "a byte more")
		refuseDecode(t, l, append(bytes.Clone(b), b...), api.ErrForm, "twice")
		refuseDecode(t, l, b[:s.Intn(len(b))], api.ErrForm, "a beginning")
		decodeSpoilt(t, s, l, b)
	}
}

// decodeSpoilt asks that what is decoded of spoilt bytes is encoded as they stand.
func decodeSpoilt(t *testing.T, s source, l []api.Field, b []byte) {
	t.Helper()
	for range 10 {
		c := bytes.Clone(b)
		c[s.Intn(len(c))] ^= byte(1 + s.Intn(255))
		v, e := pack.Decode(l, c)
		if e == api.OK {
			if d := roundTrip(t, l, v); !bytes.Equal(d, c) {
				t.Fatalf("Decode(%v, %x) is encoded as %x", l, c, d)
			}
		} else if e != api.ErrForm || len(v) != 0 {
			t.Fatalf("Decode(%v, %x): %v, %v", l, c, v, e)
		}
	}
}

// turn changes one thing of a record, or of one within it.
func (s source) turn(v []api.Value) []api.Value {
	if s.Intn(8) == 0 {
		return append(v, api.Value{})
	}
	if len(v) == 0 || s.Intn(8) == 0 {
		return v[:len(v)/2]
	}
	x := &v[s.Intn(len(v))]
	switch s.Intn(6) {
	case 0:
		x.N++
	case 1:
		x.N--
	case 2:
		x.B = append(x.B, 0)
	case 3:
		x.B = x.B[:len(x.B)/2]
	case 4:
		x.L = append(x.L, s.record(fields(number(0, 1))))
	default:
		if len(x.L) > 0 {
			x.L[0] = s.turn(x.L[0])
		}
	}
	return v
}

// P3.2: a record is encoded, if it fits, and else refused.
func TestTurnedRecords(t *testing.T) {
	s := source{rand.New(rand.NewSource(5))}
	count := [2]int{}
	for range 20000 {
		l := s.fields(1)
		v := s.turn(s.record(l))
		if fits(l, v) {
			count[0]++
			roundTrip(t, l, v)
		} else {
			count[1]++
			refuseEncode(t, l, v, fmt.Sprint(l, v))
		}
	}
	if count[0] < 1000 || count[1] < 1000 {
		t.Errorf("%d that fit, %d that do not", count[0], count[1])
	}
}

// P3.4: a record that has as many bytes as Most, of the most that fields may have.
func TestGreatestRecord(t *testing.T) {
	l := fields(list(1, 65536, times(15, number(0, 0))...), text(0, 65532))
	v := record(api.Value{L: make([][]api.Value, 65536)}, api.Value{B: bytes.Repeat([]byte{7}, 65532)})
	for i := range v[0].L {
		v[0].L[i] = make([]api.Value, 15)
	}
	if b := roundTrip(t, l, v); len(b) != api.MaxBytes {
		t.Errorf("%d bytes", len(b))
	}
}

// R3: what is handed in stays as it is, and what is told is the caller's own.
func TestNothingIsShared(t *testing.T) {
	s := source{rand.New(rand.NewSource(7))}
	for range 300 {
		l := s.fields(1)
		v := s.record(l)
		oldFields, oldRecord := copyFields(l), copyRecord(v)
		b, _ := pack.Encode(l, v)
		want := bytes.Clone(b)
		w, _ := pack.Decode(l, b)
		if !sameFields(l, oldFields) || !same(v, oldRecord) || !bytes.Equal(b, want) {
			t.Fatal("what was handed in has changed")
		}
		spoilRecord(v)
		if !bytes.Equal(b, want) {
			t.Fatal("bytes share with the record they are of")
		}
		for i := range b {
			b[i] = ^b[i]
		}
		if !same(w, oldRecord) {
			t.Fatal("a record shares with the bytes it is of")
		}
		twice, _ := pack.Decode(l, want)
		spoilRecord(w)
		if !same(twice, oldRecord) {
			t.Fatal("two answers share")
		}
		spoilRecord(twice)
		spoilRecord(twice)
		if !same(twice, oldRecord) {
			t.Fatal("two lists of one answer share")
		}
	}
}

// R3: bytes and records of one answer don't run into one another, when they are added to.
func TestListsGrowApart(t *testing.T) {
	l := fields(text(0, 3), text(0, 3), list(0, 3, number(0, 9), number(0, 9)), list(0, 3, number(0, 9)))
	old := record(api.Value{B: []byte("ab")}, api.Value{B: []byte("c")}, api.Value{L: [][]api.Value{{{N: 1}, {N: 2}}, {{N: 3}, {N: 4}}}}, api.Value{L: [][]api.Value{{{N: 5}}}})
	b, _ := pack.Encode(l, old)
	want := bytes.Clone(b)
	v, _ := pack.Decode(l, b)
	_ = append(v[0].B, 'x', 'y')
	_ = append(v[1].B, 'z')
	_ = append(v[2].L[0], api.Value{N: 9}, api.Value{N: 9})
	_ = append(v[2].L, nil, nil)
	if !same(v, old) || !bytes.Equal(b, want) {
		t.Errorf("%v, of %x", v, b)
	}
}

// P3.3, P3.4: whatever the bytes are, they are the code of what is decoded, or of nothing.
func FuzzDecode(f *testing.F) {
	l := fields(number(1, 300), text(0, 3), list(0, 2, number(0, 9), list(1, 2, text(2, 300))))
	f.Add([]byte("\xff\x00\x02ab\x00"))
	f.Add([]byte("\x00\x00\x00\x01\x09\x00\x01\x00abc"))
	f.Fuzz(func(t *testing.T, b []byte) {
		v, e := pack.Decode(l, b)
		if e == api.OK {
			if c := roundTrip(t, l, v); !bytes.Equal(b, c) {
				t.Fatalf("%x is encoded again as %x", b, c)
			}
		} else if e != api.ErrForm || len(v) != 0 {
			t.Fatalf("Decode(%x): %v, %v", b, v, e)
		}
	})
}

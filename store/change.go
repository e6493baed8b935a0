package store

import (
	"pennant/api"
	"pennant/pack"
)

// opMayBe tells whether an op may be a part of a change, mayNotBe whether ops are no change that may be.
func opMayBe(op api.Op) bool {
	if op.Del && len(op.Value) > 0 {
		return false
	}
	return len(op.Key) >= 1 && len(op.Key) <= api.MaxKey && len(op.Value) <= api.MaxValue
}

func mayNotBe(ops []api.Op) bool {
	for _, op := range ops {
		if !opMayBe(op) {
			return true
		}
	}
	return len(ops) < 1 || len(ops) > api.MaxOps
}

// pairFields are a pair's. Its key has far less bytes than twoWide, which lets how many they are stand in two bytes.
func pairFields() []api.Field {
	const twoWide = 256
	return []api.Field{
		{Kind: api.FieldBytes, Max: twoWide},
		{Kind: api.FieldBytes, Max: api.MaxValue},
	}
}

// changeFields are a change's: one list, of ops, each a number, 1 if Del, and a pair.
func changeFields() []api.Field {
	op := append([]api.Field{{Kind: api.FieldNumber, Max: 1}}, pairFields()...)
	return []api.Field{{Kind: api.FieldList, Max: api.MaxOps, Of: op}}
}

// encodeChanges is the bytes of each of some changes that may be.
func encodeChanges(l [][]api.Op) [][]byte {
	fields := changeFields()
	var records [][]byte
	for _, ops := range l {
		var list [][]api.Value
		for _, op := range ops {
			list = append(list, []api.Value{{N: delNumber(op)}, {B: op.Key}, {B: op.Value}})
		}
		b, _ := pack.Encode(fields, []api.Value{{L: list}}) // a change that may be fits
		records = append(records, b)
	}
	return records
}

func delNumber(op api.Op) uint64 {
	if op.Del {
		return 1
	}
	return 0
}

// decodeChange is the change of bytes; false, if these are none's.
func decodeChange(b []byte) ([]api.Op, bool) {
	v, e := pack.Decode(changeFields(), b)
	if e != api.OK {
		return nil, false
	}
	var ops []api.Op
	for _, record := range v[0].L {
		ops = append(ops, api.Op{Del: record[0].N == 1, Key: record[1].B, Value: record[2].B})
	}
	if mayNotBe(ops) {
		return nil, false
	}
	return ops, true
}

package store

import (
	"bytes"
	"maps"
	"slices"
	"strings"

	"pennant/api"
	"pennant/pack"
)

const (
	wide  = 2        // bytes of how many bytes a key or a value has
	front = 2 * wide // bytes of a pair beside its own
)

// pairs are values by their keys. A value is never changed in its place, so that copies of the map may share it.
type pairs map[string][]byte

// do does ops, one behind the other.
func (p pairs) do(ops ...api.Op) {
	for _, op := range ops {
		if op.Del {
			delete(p, string(op.Key))
		} else {
			p[string(op.Key)] = bytes.Clone(op.Value)
		}
	}
}

// behind is what comes of changes; the pairs themselves stay, as the changes may yet fail.
func (p pairs) behind(l [][]api.Op) pairs {
	next := maps.Clone(p)
	for _, ops := range l {
		next.do(ops...)
	}
	return next
}

// keys are those that begin so, in order.
func (p pairs) keys(begin string) []string {
	var l []string
	for key := range p {
		if strings.HasPrefix(key, begin) {
			l = append(l, key)
		}
	}
	slices.Sort(l)
	return l
}

// size is how many bytes encode has.
func (p pairs) size() int {
	n := 0
	for key, value := range p {
		n += front + len(key) + len(value)
	}
	return n
}

// encode is the pairs as a state's bytes; decodeState is those of such bytes, and false, if these are none.
func (p pairs) encode() []byte {
	fields := pairFields()
	state := make([]byte, 0, p.size())
	for _, key := range p.keys("") {
		b, _ := pack.Encode(fields, []api.Value{{B: []byte(key)}, {B: p[key]}}) // each pair fits: it came of an op that may be
		state = append(state, b...)
	}
	return state
}

func decodeState(b []byte) (pairs, bool) {
	// pack takes a record only from all of the bytes, and a state does not tell where its first pair ends.
	take := func() ([]byte, bool) {
		if len(b) < wide {
			return nil, false
		}
		n := int(b[0]) | int(b[1])<<8
		if n > len(b)-wide {
			return nil, false
		}
		part := b[wide : wide+n]
		b = b[wide+n:]
		return part, true
	}
	p := make(pairs)
	for last := ""; len(b) > 0; {
		key, isKey := take()
		value, isValue := take()
		op := api.Op{Key: key, Value: value}
		if !isKey || !isValue || !opMayBe(op) || string(key) <= last {
			return nil, false
		}
		p.do(op)
		last = string(key)
	}
	return p, true
}

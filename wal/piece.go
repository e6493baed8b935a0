package wal

import (
	"bytes"
	"iter"
)

// The kinds of pieces.
const (
	moreState = 1 + iota // a part of the state that is not its last one
	lastState
	record
)

const (
	frontSize = 1 + numberSize // bytes of a piece ahead of its own
	partSize  = 1024           // bytes of each part of a state but the last one
	longest   = 4096           // bytes of a piece that is told
)

// pieceSize is how many bytes the piece of b has; stateSize is how many those of a state have.
func pieceSize(b []byte) int { return frontSize + len(b) }

func stateSize(state []byte) int {
	parts := max(1, (len(state)+partSize-1)/partSize)
	return len(state) + parts*frontSize
}

// appendPiece puts a piece behind bytes; statePieces are those of a state.
func appendPiece(to []byte, kind byte, b []byte) []byte {
	return append(appendNumber(append(to, kind), len(b)), b...)
}

func statePieces(state []byte) []byte {
	b := make([]byte, 0, stateSize(state))
	for ; len(state) > partSize; state = state[partSize:] {
		b = appendPiece(b, moreState, state[:partSize])
	}
	return appendPiece(b, lastState, state)
}

// pieces are those that bytes begin with, one behind the other, each with its kind, as long as they are whole.
func pieces(b []byte) iter.Seq2[byte, []byte] {
	return func(yield func(byte, []byte) bool) {
		for rest := b; len(rest) >= frontSize; {
			kind, n := rest[0], numberAt(rest, 1)
			rest = rest[frontSize:]
			if n > longest || n > len(rest) || !yield(kind, rest[:n]) {
				return
			}
			rest = rest[n:]
		}
	}
}

// readPieces is the state, and the records, that the head lets count; without its last part no part of a state does.
func (l *Log) readPieces() (state []byte, records [][]byte) {
	whole := false
reading:
	for kind, b := range pieces(l.readBank()) {
		switch {
		case kind == moreState && !whole:
			state = append(state, b...)
		case kind == lastState && !whole:
			state = append(state, b...)
			whole = true
		case kind == record && whole:
			records = append(records, bytes.Clone(b))
		default:
			break reading
		}
	}
	if !whole {
		return nil, nil
	}
	return state, records
}

// readBank is the bytes of the head's bank, as many as it says.
func (l *Log) readBank() []byte {
	b := make([]byte, 0, l.size)
	for i := 0; len(b) < l.head.length; i++ {
		b = append(b, l.readSector(l.sector(l.head.generation, i))...)
	}
	return b[:l.head.length]
}

package boot

import (
	"iter"

	"pennant/api"
)

const (
	blocks = 2
	erased = 255 // each byte of a place at which nothing was programmed
)

// place is where an entry may stand: the i-th of one of the two blocks.
type place struct{ block, i int }

// firstPlace is ahead of all of them.
func firstPlace() place { return place{i: -1} }

// read is the bytes of one of the two blocks.
func (k *Keeper) read(block int) ([]byte, api.Errno) {
	return k.flash.Read((k.block+block)*api.BlockSize, api.BlockSize)
}

// places are those of a block's bytes, each with its own bytes; entries are the ones at which an entry stands.
func places(b []byte) iter.Seq2[int, []byte] {
	return func(yield func(int, []byte) bool) {
		for i := range len(b) / entrySize {
			if !yield(i, b[i*entrySize:(i+1)*entrySize]) {
				return
			}
		}
	}
}

func entries(b []byte) iter.Seq2[int, entry] {
	return func(yield func(int, entry) bool) {
		for i, cell := range places(b) {
			if x, stands := decode(cell); stands && !yield(i, x) {
				return
			}
		}
	}
}

// find looks the last entry up; of two of one generation the first one stays.
func (k *Keeper) find() api.Errno {
	for block := range blocks {
		b, e := k.read(block)
		if e != api.OK {
			return e
		}
		for i, x := range entries(b) {
			if x.generation > k.last.generation {
				k.last, k.at = x, place{block, i}
			}
		}
	}
	return api.OK
}

// put programs an entry, which is the last one only when it stands.
func (k *Keeper) put(x entry) api.Errno {
	to, e := k.room()
	if e != api.OK {
		return e
	}
	at := (k.block+to.block)*api.BlockSize + to.i*entrySize
	if e := k.flash.Program(at, x.encode()); e != api.OK {
		return e
	}
	k.last, k.at = x, to
	return api.OK
}

// room is a place at which nothing stands. The block of the last entry is never erased for it, so that there is always one to go back to.
func (k *Keeper) room() (place, api.Errno) {
	b, e := k.read(k.at.block)
	if e != api.OK {
		return place{}, e
	}
	for i, cell := range places(b) {
		if i > k.at.i && allAre(cell, erased) {
			return place{k.at.block, i}, api.OK
		}
	}
	other := 1 - k.at.block
	return place{other, 0}, k.flash.Erase(k.block + other)
}

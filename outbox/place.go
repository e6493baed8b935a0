package outbox

import (
	"cmp"
	"iter"
	"slices"

	"pennant/api"
)

const (
	blocks  = 2
	inBlock = api.BlockSize / entrySize // entries
	erased  = 255                       // each byte of a place at which nothing was programmed
)

// place is where an entry may stand: the i-th of one of the two blocks.
type place struct{ block, i int }

// behind are the places of a block behind one of it; places are those of both blocks.
func behind(p place) iter.Seq[place] {
	return func(yield func(place) bool) {
		for i := p.i + 1; i < inBlock; i++ {
			if !yield(place{p.block, i}) {
				return
			}
		}
	}
}

func places() iter.Seq[place] {
	return func(yield func(place) bool) {
		for block := range blocks {
			for p := range behind(place{block, -1}) {
				if !yield(p) {
					return
				}
			}
		}
	}
}

// start is where a place begins in the flash.
func (b *Box) start(p place) int { return (b.block+p.block)*api.BlockSize + p.i*entrySize }

// read is the bytes of a place.
func (b *Box) read(p place) ([]byte, api.Errno) { return b.flash.Read(b.start(p), entrySize) }

// find looks up what there is; of two of one number the first one stays the last, and is ahead of the other.
func (b *Box) find() api.Errno {
	for p := range places() {
		cell, e := b.read(p)
		if e != api.OK {
			return e
		}
		x, stands := decode(cell[:sealSize])
		if !stands {
			continue
		}
		x.at = p
		if x.seq > b.last.seq {
			b.last = x
		}
		if cell[sealSize] == erased {
			b.waiting = append(b.waiting, x)
		}
	}
	slices.SortStableFunc(b.waiting, func(x, y entry) int { return cmp.Compare(x.seq, y.seq) })
	return api.OK
}

// room is a place at which nothing stands. The block of the last entry is never erased for it, so that its number is not given again; nor is one in which a report waits.
func (b *Box) room() (place, api.Errno) {
	for p := range behind(b.last.at) {
		cell, e := b.read(p)
		if e != api.OK {
			return place{}, b.done(e)
		}
		if allAre(cell, erased) {
			return p, api.OK
		}
	}
	other := 1 - b.last.at.block
	if slices.ContainsFunc(b.waiting, func(x entry) bool { return x.at.block == other }) {
		return place{}, api.ErrFull
	}
	return place{block: other}, b.done(b.flash.Erase(b.block + other))
}

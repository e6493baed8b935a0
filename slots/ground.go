package slots

import (
	"pennant/api"
	"pennant/boot"
	"pennant/flash"
)

const (
	maxData      = 32 // data blocks of a slot
	bootBlocks   = 2
	headerBlocks = 1
)

// ground is the blocks of a flash that slots stand in.
type ground struct {
	flash *flash.Flash
	first int // of its blocks
	n     int // data blocks of each slot
}

// isThere tells whether a flash has all those blocks; first is added to nothing, as a sum may wrap round.
func (g ground) isThere() bool {
	all := Blocks(g.n)
	return g.flash != nil && all > 0 && g.first >= 0 && g.first <= g.flash.Len()-all
}

// fits tells whether a slot has room for an image.
func (g ground) fits(m api.Manifest) bool { return m.Size <= g.n*api.BlockSize }

// side is the slot 0 or 1.
func (g ground) side(slot int) side {
	return side{ground: g, block: g.first + bootBlocks + slot*(headerBlocks+g.n)}
}

func (g ground) openKeeper() (*boot.Keeper, api.Errno) { return boot.Open(g.flash, g.first) }

// saveFirst lets a device begin with the slot 0, of a version.
func (g ground) saveFirst(version int) api.Errno {
	k, e := g.openKeeper()
	if e != api.OK {
		return e
	}
	return k.Save(api.Boot{Trial: none, Versions: [2]int{version, 0}})
}

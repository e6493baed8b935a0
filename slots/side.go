package slots

import "pennant/api"

// side is one of the two slots, where it stands in a flash.
type side struct {
	ground
	block int // its header; its data stands behind that
}

// headerAt and dataAt are where the i-th byte of its header, and of its data, stands.
func (d side) headerAt(i int) int { return d.block*api.BlockSize + i }

func (d side) dataAt(i int) int { return (d.block+headerBlocks)*api.BlockSize + i }

// header is what its header tells, if it has a manifest.
func (d side) header() (header, bool) {
	b, e := d.flash.Read(d.headerAt(0), api.BlockSize)
	if e != api.OK {
		return header{}, false
	}
	m, is := manifestOf(b)
	if !is || !d.fits(m) {
		return header{}, false
	}
	return header{manifest: m, block: b}, true
}

// data is so many bytes of its data; no more than a block is read at once, as a flash reads no image whole.
func (d side) data(size int) ([]byte, bool) {
	image := make([]byte, 0, size)
	for i := range blocksOf(size) {
		at := i * api.BlockSize
		b, e := d.flash.Read(d.dataAt(at), min(api.BlockSize, size-at))
		if e != api.OK {
			return nil, false
		}
		image = append(image, b...)
	}
	return image, true
}

// clear is its header erased, ahead of the data, so that it has a manifest only of what stands behind it.
func (d side) clear(m api.Manifest) step {
	return erase(d.flash, d.block, headerBlocks+blocksOf(m.Size))
}

// fill is an image programmed, block by block; put is a part of one, from a place on.
func (d side) fill(image []byte) step {
	return each(blocksOf(len(image)), func(i int) step {
		at := i * api.BlockSize
		return d.put(at, image[at:min(at+api.BlockSize, len(image))])
	})
}

func (d side) put(at int, b []byte) step { return program(d.flash, d.dataAt(at), b) }

// name is a manifest programmed into its header; markThere and markVerified are the bytes there that tell of a chunk, and of the image.
func (d side) name(m api.Manifest) step { return program(d.flash, d.headerAt(0), beginning(m)) }

func (d side) markThere(i int) step { return d.mark(thereAt + i) }

func (d side) markVerified() step { return d.mark(verifiedAt) }

func (d side) mark(i int) step { return program(d.flash, d.headerAt(i), []byte{mark}) }

// blocksOf is how many blocks so many bytes need.
func blocksOf(size int) int { return (size + api.BlockSize - 1) / api.BlockSize }

package frame

import (
	"pennant/api"
	"pennant/crc"
)

// maxHeld is how many bytes are held at most: more than the longest frame has.
const maxHeld = 2100

// Reader takes frames off a stream.
type Reader struct {
	held   []byte
	spoilt bool
}

// New is one at the beginning of a stream.
func New() *Reader { return &Reader{} }

// Feed takes bytes of the stream: the frames that end there, and how many were spoilt.
func (r *Reader) Feed(b []byte) ([][]byte, int) {
	var told [][]byte
	spoilt := 0
stream:
	for {
		for i, x := range b {
			if x != 0 {
				r.hold(x)
				continue
			}
			b = b[i+1:]
			if r.Held() == 0 {
				continue stream
			}
			if frame, whole := r.end(); whole {
				told = append(told, frame)
			} else {
				spoilt++
			}
			continue stream
		}
		return told, spoilt
	}
}

// Held is how many bytes wait for their frame's end.
func (r *Reader) Held() int { return len(r.held) }

// hold keeps a byte of a frame; what never ends is not to take ever more room.
func (r *Reader) hold(x byte) {
	if len(r.held) == maxHeld {
		r.spoilt = true
		return
	}
	r.held = append(r.held, x)
}

// end is the bytes of the frame that ends, if it is one; then nothing is held.
func (r *Reader) end() ([]byte, bool) {
	frame := *r
	*r = Reader{}
	if frame.spoilt {
		return nil, false
	}
	return taken(frame.held)
}

// taken is the bytes whose Put is what is held, and a nought.
func taken(held []byte) ([]byte, bool) {
	sealed, e := Plain(held)
	if e != api.OK {
		return nil, false
	}
	b, whole := crc.Open(sealed)
	// More bytes than a frame's may have been sealed well, but have no Put.
	if len(b) > api.MaxFrame {
		return nil, false
	}
	return b, whole
}

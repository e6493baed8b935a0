package link

import (
	"slices"

	"pennant/api"
)

const (
	ahead    = 4 // bodies at most that were sent and are not gone
	patience = 3 // moments until they are sent again
)

// session is what hangs on the peer. It begins again as a whole with each epoch of it, so that no number of an older one is left.
type session struct {
	epoch, peer int // peer is 0, as long as it is not known
	first       int // the number of the first body that waits
	sent        int // how many of the first ones that wait were sent
	next        int // the number of the body that is taken
	timer       int // moments in which some were sent, and none was gone
}

// begin is the session with an epoch of the peer.
func begin(epoch, peer int) session {
	return session{epoch: epoch, peer: peer, first: 1, next: 1}
}

// packet is one of a kind to the peer; hello, welcome, acknowledgement and data are all that are made of it.
func (s *session) packet(kind int) api.Packet {
	return api.Packet{Kind: kind, From: s.epoch, To: s.peer}
}

func (s *session) hello() api.Packet { return s.packet(api.Hello) }

func (s *session) welcome() api.Packet { return s.packet(api.Welcome) }

func (s *session) acknowledgement() api.Packet {
	p := s.packet(api.Data)
	p.Ack = s.next - 1
	return p
}

// data is the i-th body that waits. It acknowledges, too, so that nothing else must be sent for that.
func (s *session) data(i int, body []byte) api.Packet {
	p := s.acknowledgement()
	p.Seq, p.Body = s.first+i, slices.Clone(body)
	return p
}

// pass lets a moment pass: what was not acknowledged for too long counts as lost.
func (s *session) pass() {
	if s.sent == 0 {
		return
	}
	s.timer++
	if s.timer == patience {
		s.timer, s.sent = 0, 0
	}
}

// acknowledged is how many of those that wait are gone by an acknowledgement. One of what was never sent is no true one, and lets none go.
func (s *session) acknowledged(ack int) int {
	if ack < s.first || ack >= s.first+s.sent {
		return 0
	}
	n := ack - s.first + 1
	s.first, s.sent, s.timer = s.first+n, s.sent-n, 0
	return n
}

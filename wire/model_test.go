package wire_test

import (
	"bytes"
	"math/rand"
	"slices"

	"pennant/api"
)

// This is the chapter again, by other means: messages and datagrams are told by tables of places and bounds, the sum goes bit by bit, bytes are laid out by hand.

const (
	maxNumber = 1 << 30
	maxNode   = 4096
	maxBody   = 1500
	maxPart   = 1024
)

// The numbers of a message, in the order in which every kind has its own.
const (
	device = iota
	seq
	campaign
	lease
	version
	chunk
	outcome
	numbers
)

// part is a number that stands in bytes: from what to what it may be, and in how many bytes.
type part struct{ number, least, most, wide int }

var (
	aDevice   = part{device, 1, 4096, 2}
	aSeq      = part{seq, 1, maxNumber, 4}
	aCampaign = part{campaign, 1, maxNumber, 4}
	aLease    = part{lease, 1, maxNumber, 4}
	aChunk    = part{chunk, 0, 127, 1}
)

// parts are what each kind of message has, beside a manifest and a body.
var parts = [9][]part{
	api.Poll:  {aDevice, {version, 0, maxNumber, 4}},
	api.Offer: {aCampaign, aLease},
	api.Idle:  {},
	api.Want:  {aCampaign, aLease, aChunk},
	api.Part:  {aCampaign, aLease, aChunk},
	api.Tell:  {aDevice, aSeq, aCampaign, aLease, {version, 1, maxNumber, 4}, {outcome, 1, 3, 1}},
	api.Told:  {aSeq},
	api.Gone:  {aCampaign, aLease},
}

// get are a message's numbers, set puts one into it.
func get(m api.Message) [numbers]int {
	return [numbers]int{m.Device, m.Seq, m.Campaign, m.Lease, m.Version, m.Chunk, m.Outcome}
}

func set(m *api.Message, number, n int) {
	switch number {
	case device:
		m.Device = n
	case seq:
		m.Seq = n
	case campaign:
		m.Campaign = n
	case lease:
		m.Lease = n
	case version:
		m.Version = n
	case chunk:
		m.Chunk = n
	case outcome:
		m.Outcome = n
	}
}

// within tells whether n is from least to most.
func within(n, least, most int) bool { return max(least, min(n, most)) == n }

// mayMessage tells whether a message may be.
func mayMessage(m api.Message) bool {
	if !within(m.Kind, 1, 8) {
		return false
	}
	var least, most [numbers]int
	for _, p := range parts[m.Kind] {
		least[p.number], most[p.number] = p.least, p.most
	}
	for i, n := range get(m) {
		if !within(n, least[i], most[i]) {
			return false
		}
	}
	if m.Kind == api.Offer && !mayManifest(m.Manifest) || m.Kind != api.Offer && !sameManifest(m.Manifest, api.Manifest{}) {
		return false
	}
	return len(m.Body) == 0 || m.Kind == api.Part && len(m.Body) <= maxPart
}

// mayManifest tells whether a manifest may be.
func mayManifest(m api.Manifest) bool {
	if !within(m.Version, 1, maxNumber) || !within(m.Size, 1, 1<<15) || !within(m.Chunk, 16, 1024) {
		return false
	}
	count := len(m.Sums)
	if count > 128 || m.Size > count*m.Chunk || m.Size <= (count-1)*m.Chunk {
		return false
	}
	return !slices.ContainsFunc(m.Sums, func(sum uint32) bool { return sum>>24 != 0 })
}

// low puts the lowest bytes of a number behind bytes, the lowest first.
func low(b []byte, n, wide int) []byte {
	for range wide {
		b = append(b, byte(n))
		n >>= 8
	}
	return b
}

// layManifest is a manifest as bytes, whether it may be or not.
func layManifest(m api.Manifest) []byte {
	b := low(nil, m.Version-1, 4)
	b = low(b, m.Size-1, 2)
	b = low(b, m.Chunk-16, 2)
	b = append(append(b, 0), m.Hash[:]...)
	b = low(b, len(m.Sums)-1, 1)
	for _, sum := range m.Sums {
		b = low(b, int(sum), 3)
	}
	return b
}

// text puts bytes behind others, ahead of them how many.
func text(b, more []byte) []byte { return append(low(b, len(more), 2), more...) }

// layMessage is a message of a kind from 1 to 8 as bytes, whether it may be or not.
func layMessage(m api.Message) []byte {
	b := []byte{byte(m.Kind)}
	l := get(m)
	for _, p := range parts[m.Kind] {
		b = low(b, l[p.number]-p.least, p.wide)
	}
	switch m.Kind {
	case api.Offer:
		b = text(b, layManifest(m.Manifest))
	case api.Part:
		b = text(b, m.Body)
	}
	return b
}

// taker takes things off the front of bytes; short tells that there were too few.
type taker struct {
	left  []byte
	short bool
}

func (t *taker) bytes(n int) []byte {
	if n > len(t.left) {
		t.left, t.short = nil, true
		return make([]byte, min(n, 1<<17))
	}
	b := t.left[:n]
	t.left = t.left[n:]
	return b
}

func (t *taker) number(wide int) int {
	n := 0
	for i, x := range t.bytes(wide) {
		n += int(x) << (8 * i)
	}
	return n
}

func (t *taker) text() []byte { return bytes.Clone(t.bytes(t.number(2))) }

func (t *taker) whole() bool { return !t.short && len(t.left) == 0 }

// readManifest is what bytes tell of a manifest, whether it may be or not.
func readManifest(b []byte) (api.Manifest, bool) {
	t := taker{left: b}
	m := api.Manifest{Version: t.number(4) + 1, Size: t.number(2) + 1, Chunk: t.number(2) + 16}
	odd := t.number(1) != 0
	copy(m.Hash[:], t.bytes(32))
	for range t.number(1) + 1 {
		m.Sums = append(m.Sums, uint32(t.number(3)))
	}
	return m, t.whole() && !odd
}

// readMessage is the message of which bytes are the Encode, if there is one.
func readMessage(b []byte) (api.Message, bool) {
	t := taker{left: b}
	m := api.Message{Kind: t.number(1)}
	if !within(m.Kind, 1, 8) {
		return api.Message{}, false
	}
	for _, p := range parts[m.Kind] {
		set(&m, p.number, p.least+t.number(p.wide))
	}
	is := true
	switch m.Kind {
	case api.Offer:
		m.Manifest, is = readManifest(t.text())
	case api.Part:
		m.Body = t.text()
	}
	if !is || !t.whole() || !mayMessage(m) {
		return api.Message{}, false
	}
	return m, true
}

// datagram is a packet, and its nodes.
type datagram struct {
	from, to int
	packet   api.Packet
}

// mayPacket tells whether a packet may be, mayDatagram whether it and its nodes may.
func mayPacket(p api.Packet) bool {
	if !within(p.Kind, 1, 3) || !within(p.From, 1, maxNumber) || !within(p.To, 0, maxNumber) || !within(p.Seq, 0, maxNumber) || !within(p.Ack, 0, maxNumber) {
		return false
	}
	if p.Kind != api.Data && p.Ack != 0 {
		return false
	}
	numbered := p.Kind == api.Data && p.Seq != 0
	return numbered && len(p.Body) <= maxBody || !numbered && p.Seq == 0 && len(p.Body) == 0
}

func mayDatagram(d datagram) bool {
	return within(d.from, 0, maxNode) && within(d.to, 0, maxNode) && mayPacket(d.packet)
}

// layDatagram is a datagram's bytes, but its sum, whether it may be or not.
func layDatagram(d datagram) []byte {
	p := d.packet
	b := low(low(nil, d.from, 2), d.to, 2)
	b = low(low(b, p.Kind-1, 1), p.From-1, 4)
	b = low(low(low(b, p.To, 4), p.Seq, 4), p.Ack, 4)
	return text(b, p.Body)
}

// sealed is bytes with their check sum, bit by bit.
func sealed(b []byte) []byte {
	s := uint64(0xB704CE)
	for _, x := range b {
		s ^= uint64(x) << 16
		for range 8 {
			s *= 2
			if s>>24 == 1 {
				s ^= 0x1864CFB
			}
		}
	}
	return append(bytes.Clone(b), byte(s>>16), byte(s>>8), byte(s))
}

// readDatagram is the datagram of which bytes are the Wrap, if there is one.
func readDatagram(b []byte) (datagram, bool) {
	if len(b) < 3 || !bytes.Equal(sealed(b[:len(b)-3]), b) {
		return datagram{}, false
	}
	t := taker{left: b[:len(b)-3]}
	d := datagram{from: t.number(2), to: t.number(2)}
	d.packet = api.Packet{Kind: t.number(1) + 1, From: t.number(4) + 1, To: t.number(4), Seq: t.number(4), Ack: t.number(4), Body: t.text()}
	if !t.whole() || !mayDatagram(d) {
		return datagram{}, false
	}
	return d, true
}

// sameManifest, sameMessage, samePacket and sameDatagram tell whether two are alike; nil and empty are.
func sameManifest(m, w api.Manifest) bool {
	return m.Version == w.Version && m.Size == w.Size && m.Chunk == w.Chunk && bytes.Equal(m.Hash[:], w.Hash[:]) && slices.Equal(m.Sums, w.Sums)
}

func sameMessage(m, w api.Message) bool {
	return m.Kind == w.Kind && get(m) == get(w) && sameManifest(m.Manifest, w.Manifest) && bytes.Equal(m.Body, w.Body)
}

func samePacket(p, q api.Packet) bool {
	return p.Kind == q.Kind && p.From == q.From && p.To == q.To && p.Seq == q.Seq && p.Ack == q.Ack && bytes.Equal(p.Body, q.Body)
}

func sameDatagram(d, w datagram) bool {
	return d.from == w.from && d.to == w.to && samePacket(d.packet, w.packet)
}

// copyMessage and copyPacket share nothing with what they are of.
func copyMessage(m api.Message) api.Message {
	m.Body, m.Manifest.Sums = bytes.Clone(m.Body), slices.Clone(m.Manifest.Sums)
	return m
}

func copyPacket(p api.Packet) api.Packet {
	p.Body = bytes.Clone(p.Body)
	return p
}

// source makes things by chance that is the same in each run of the tests.
type source struct{ *rand.Rand }

func chance(seed int64) source { return source{rand.New(rand.NewSource(seed))} }

// between is a number from least to most, often one of these, or a small one.
func (s source) between(least, most int) int {
	switch s.Intn(5) {
	case 0:
		return least
	case 1:
		return most
	case 2:
		return min(most, least+s.Intn(300))
	}
	return least + s.Intn(most-least+1)
}

// filled is n bytes.
func (s source) filled(n int) []byte {
	b := make([]byte, n)
	s.Read(b)
	return b
}

// manifest is one that may be.
func (s source) manifest() api.Manifest {
	m := api.Manifest{Version: s.between(1, maxNumber), Chunk: s.between(16, 1024)}
	m.Size = s.between(1, min(1<<15, 128*m.Chunk))
	for range (m.Size + m.Chunk - 1) / m.Chunk {
		m.Sums = append(m.Sums, uint32(s.between(0, 1<<24-1)))
	}
	s.Read(m.Hash[:])
	return m
}

// message is one that may be.
func (s source) message() api.Message {
	m := api.Message{Kind: 1 + s.Intn(8)}
	for _, p := range parts[m.Kind] {
		set(&m, p.number, s.between(p.least, p.most))
	}
	switch m.Kind {
	case api.Offer:
		m.Manifest = s.manifest()
	case api.Part:
		m.Body = s.filled(s.between(0, maxPart))
	}
	return m
}

// datagram is one that may be.
func (s source) datagram() datagram {
	p := api.Packet{Kind: 1 + s.Intn(3), From: s.between(1, maxNumber), To: s.between(0, maxNumber)}
	if p.Kind == api.Data {
		p.Seq, p.Ack = s.between(0, maxNumber), s.between(0, maxNumber)
	}
	if p.Seq != 0 {
		p.Body = s.filled(s.between(0, maxBody))
	}
	return datagram{s.between(0, maxNode), s.between(0, maxNode), p}
}

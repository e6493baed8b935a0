package wire_test

import (
	"bytes"
	"math"
	"strings"
	"testing"

	"pennant/api"
	"pennant/link"
	"pennant/wire"
)

// ofEachPacket are datagrams with packets of each kind.
func ofEachPacket() []datagram {
	return []datagram{
		{0, 1, api.Packet{Kind: api.Hello, From: 1}},
		{4096, 0, api.Packet{Kind: api.Hello, From: maxNumber, To: maxNumber}},
		{7, 7, api.Packet{Kind: api.Welcome, From: 2, To: 3}},
		{0, 0, api.Packet{Kind: api.Data, From: 2, To: 3}},
		{1, 0, api.Packet{Kind: api.Data, From: 2, To: 3, Ack: maxNumber}},
		{1, 0, api.Packet{Kind: api.Data, From: 2, To: 3, Seq: maxNumber}},
		{5, 300, api.Packet{Kind: api.Data, From: 0x01020305, To: 0x01020304, Seq: 4, Ack: 5, Body: []byte("body")}},
		{4096, 4096, api.Packet{Kind: api.Data, From: maxNumber, To: maxNumber, Seq: maxNumber, Ack: maxNumber, Body: make([]byte, maxBody)}},
	}
}

// wrapped is the bytes of a datagram that may be, as the chapter lays them out; it is told as it was.
func wrapped(t testing.TB, d datagram) []byte {
	t.Helper()
	before := copyPacket(d.packet)
	b, e := wire.Wrap(d.from, d.to, d.packet)
	if want := sealed(layDatagram(d)); e != api.OK || !bytes.Equal(b, want) {
		t.Fatalf("Wrap(%v): %x, %d, not %x", d, b, e, want)
	}
	if !samePacket(d.packet, before) {
		t.Fatalf("%v was changed to %v", before, d.packet)
	}
	from, to, p, e := wire.Unwrap(b)
	if e != api.OK || !sameDatagram(datagram{from, to, p}, d) {
		t.Fatalf("Unwrap(%x): %d, %d, %v, %d, not %v", b, from, to, p, e, d)
	}
	return b
}

// wraps holds a datagram of any kind against the chapter.
func wraps(t testing.TB, d datagram) bool {
	t.Helper()
	if mayDatagram(d) {
		wrapped(t, d)
		return true
	}
	before := copyPacket(d.packet)
	if b, e := wire.Wrap(d.from, d.to, d.packet); e != api.ErrArg || len(b) != 0 {
		t.Fatalf("Wrap(%v): %x, %d", d, b, e)
	}
	if !samePacket(d.packet, before) {
		t.Fatalf("%v was changed to %v", before, d.packet)
	}
	return false
}

// unwraps fails if bytes are not unwrapped as the chapter's words say.
func unwraps(t testing.TB, b []byte) bool {
	t.Helper()
	before := bytes.Clone(b)
	want, is := readDatagram(b)
	wantE := api.OK
	if !is {
		wantE = api.ErrForm
	}
	from, to, p, e := wire.Unwrap(b)
	if e != wantE || !sameDatagram(datagram{from, to, p}, want) {
		t.Fatalf("Unwrap(%x): %d, %d, %v, %d, not %v, %d", b, from, to, p, e, want, wantE)
	}
	if !bytes.Equal(b, before) {
		t.Fatalf("Unwrap(%x) changed it", before)
	}
	if is && !bytes.Equal(wrapped(t, want), b) {
		t.Fatalf("%x is not the Wrap of %v", b, want)
	}
	return is
}

// P14.2: datagrams, byte by byte.
func TestWrapKnown(t *testing.T) {
	for _, c := range []struct {
		d    datagram
		want string
	}{
		{datagram{0, 0, api.Packet{Kind: api.Hello, From: 1}}, strings.Repeat("\x00", 23)},
		{datagram{0x0201, 0x0403, api.Packet{Kind: api.Welcome, From: 0x0A0B0C0E, To: 0x0F000102}}, "\x01\x02\x03\x04\x01\x0d\x0c\x0b\x0a\x02\x01\x00\x0f" + strings.Repeat("\x00", 10)},
		{datagram{4096, 1, api.Packet{Kind: api.Data, From: maxNumber, To: maxNumber, Seq: 3, Ack: maxNumber, Body: []byte("z")}}, "\x00\x10\x01\x00\x02\xff\xff\xff\x3f\x00\x00\x00\x40\x03\x00\x00\x00\x00\x00\x00\x40\x01\x00z"},
		{datagram{1, 4096, api.Packet{Kind: api.Data, From: 1, Seq: 1, Body: make([]byte, maxBody)}}, "\x01\x00\x00\x10\x02" + strings.Repeat("\x00", 8) + "\x01" + strings.Repeat("\x00", 7) + "\xdc\x05" + strings.Repeat("\x00", maxBody)},
	} {
		want := sealed([]byte(c.want))
		if b, e := wire.Wrap(c.d.from, c.d.to, c.d.packet); e != api.OK || !bytes.Equal(b, want) {
			t.Errorf("Wrap(%v): %x, %d, not %x", c.d, b, e, want)
		}
		if from, to, p, e := wire.Unwrap(want); e != api.OK || !sameDatagram(datagram{from, to, p}, c.d) {
			t.Errorf("Unwrap(%x): %d, %d, %v, %d, not %v", want, from, to, p, e, c.d)
		}
	}
}

// P14.2: nodes at the edges, each with each.
func TestWrapNodes(t *testing.T) {
	for _, one := range ofEachPacket() {
		for _, from := range edges {
			for _, to := range edges {
				may := from >= 0 && from <= 4096 && to >= 0 && to <= 4096
				if wraps(t, datagram{from, to, one.packet}) != may {
					t.Errorf("from %d to %d", from, to)
				}
			}
		}
	}
}

// P14.2: packets at the edges; those that are not link.Right are refused.
func TestWrapPackets(t *testing.T) {
	var may, mayNot int
	for _, d := range ofEachPacket() {
		for field := range 5 {
			for _, n := range edges {
				w := d
				p := &w.packet
				*[]*int{&p.Kind, &p.From, &p.To, &p.Seq, &p.Ack}[field] = n
				is := wraps(t, w)
				if is != link.Right(*p) {
					t.Errorf("%v", w)
				}
				if is {
					may++
				} else {
					mayNot++
				}
			}
		}
		for _, n := range []int{0, 1, 255, 256, maxBody, maxBody + 1, 1 << 16, 1<<16 + 1} {
			d.packet.Body = make([]byte, n)
			if wraps(t, d) != (n == 0 || n <= maxBody && d.packet.Seq > 0) {
				t.Errorf("a body of %d bytes, kind %d, number %d", n, d.packet.Kind, d.packet.Seq)
			}
		}
	}
	if min(may, mayNot) < 100 {
		t.Errorf("%d, %d", may, mayNot)
	}
	if b, e := wire.Wrap(0, 1, api.Packet{}); e != api.ErrArg || len(b) != 0 {
		t.Errorf("no packet: %x, %d", b, e)
	}
}

// P14.2: each byte of a datagram, at each value, with a sum that is right, is taken as the words say.
func TestUnwrapEachByte(t *testing.T) {
	for _, d := range ofEachPacket() {
		b := layDatagram(d)
		for at := range min(len(b), 32) {
			c := bytes.Clone(b)
			for x := range 256 {
				c[at] = byte(x)
				unwraps(t, sealed(c))
			}
		}
	}
}

// P14.2: what is sealed, but of numbers or bodies that may not be, is no datagram.
func TestUnwrapOdd(t *testing.T) {
	full := make([]byte, maxBody+1)
	for _, d := range []datagram{
		{4097, 0, api.Packet{Kind: api.Hello, From: 1}},
		{0, 4097, api.Packet{Kind: api.Hello, From: 1}},
		{0, -1, api.Packet{Kind: api.Hello, From: 1}},
		{0, 0, api.Packet{Kind: 4, From: 1}},
		{0, 0, api.Packet{Kind: 0, From: 1}},
		{0, 0, api.Packet{Kind: api.Hello, From: maxNumber + 1}},
		{0, 0, api.Packet{Kind: api.Hello, From: 0}},
		{0, 0, api.Packet{Kind: api.Hello, From: 1, To: maxNumber + 1}},
		{0, 0, api.Packet{Kind: api.Data, From: 1, Seq: maxNumber + 1}},
		{0, 0, api.Packet{Kind: api.Data, From: 1, Ack: maxNumber + 1}},
		{0, 0, api.Packet{Kind: api.Hello, From: 1, Seq: 1}},
		{0, 0, api.Packet{Kind: api.Hello, From: 1, Ack: 1}},
		{0, 0, api.Packet{Kind: api.Hello, From: 1, Body: full[:1]}},
		{0, 0, api.Packet{Kind: api.Welcome, From: 1, Seq: 1}},
		{0, 0, api.Packet{Kind: api.Welcome, From: 1, Ack: 1}},
		{0, 0, api.Packet{Kind: api.Welcome, From: 1, Body: full[:1]}},
		{0, 0, api.Packet{Kind: api.Data, From: 1, Body: full[:1]}},
		{0, 0, api.Packet{Kind: api.Data, From: 1, Seq: 1, Body: full}},
	} {
		if unwraps(t, sealed(layDatagram(d))) {
			t.Errorf("%v is a datagram", d)
		}
	}
	for _, b := range [][]byte{nil, {}, {0}, {1, 2}, {0, 0, 0}, sealed(nil), sealed([]byte{0}), make([]byte, 26), sealed(make([]byte, 1<<20)), make([]byte, 1<<20)} {
		if unwraps(t, b) {
			t.Errorf("%d bytes are a datagram", len(b))
		}
	}
}

// P14.2: a datagram that is cut off, or goes on, is none, whether its sum is right or not.
func TestUnwrapLengths(t *testing.T) {
	for _, d := range ofEachPacket() {
		b, whole := layDatagram(d), wrapped(t, d)
		for n := range b {
			if unwraps(t, sealed(b[:n])) {
				t.Errorf("%d bytes of %d are a datagram", n, len(b))
			}
		}
		for n := range whole {
			if unwraps(t, whole[:n]) {
				t.Errorf("%d bytes of %d are a datagram", n, len(whole))
			}
		}
		for _, more := range []int{1, 2, 3, 4, 100} {
			if unwraps(t, sealed(append(bytes.Clone(b), make([]byte, more)...))) || unwraps(t, append(bytes.Clone(whole), make([]byte, more)...)) {
				t.Errorf("%d bytes more are a datagram", more)
			}
		}
		if unwraps(t, b) {
			t.Errorf("%x is a datagram without a sum", b)
		}
	}
}

// turned is bytes of which bits are turned, from a bit on: the lowest one of by is at that bit, the highest one of a byte being its first.
func turned(b []byte, at int, by uint32) []byte {
	c := bytes.Clone(b)
	for ; by > 0; by >>= 1 {
		if by&1 > 0 {
			c[at/8] ^= 128 >> (at % 8)
		}
		at++
	}
	return c
}

// none fails if bytes are a datagram.
func none(t testing.TB, b []byte) {
	t.Helper()
	if from, to, p, e := wire.Unwrap(b); e != api.ErrForm || !sameDatagram(datagram{from, to, p}, datagram{}) {
		t.Fatalf("Unwrap(%x): %d, %d, %v, %d", b, from, to, p, e)
	}
}

// P14.3: a datagram that was turned within 24 bits is none: at each place each turn within eleven bits, and many within 24.
func TestTurnedWithin24Bits(t *testing.T) {
	s := chance(3)
	for _, d := range ofEachPacket()[:7] {
		b := wrapped(t, d)
		bits := 8 * len(b)
		for at := range bits {
			for by := uint32(1); by < 1<<min(11, bits-at); by += 2 {
				none(t, turned(b, at, by))
			}
			for range 200 {
				by := 1 + s.Uint32()>>8
				none(t, turned(b, at, by&(1<<min(24, bits-at)-1)|1))
			}
		}
	}
}

// P14.3: in the greatest datagram, too, each of its bytes, and all bits of 24.
func TestGreatestTurned(t *testing.T) {
	b := wrapped(t, ofEachPacket()[7])
	if len(b) != 1526 {
		t.Errorf("%d bytes", len(b))
	}
	s := chance(4)
	for at := range b {
		none(t, turned(b, 8*at, uint32(1+s.Intn(255))))
		if at+3 <= len(b) {
			none(t, turned(b, 8*at, 1<<24-1))
			none(t, turned(b, 8*at, 1+s.Uint32()>>8|1))
		}
	}
}

// P14.2, P14.3: datagrams by chance, also such that may not be, and spoilt ones; no two are the same bytes.
func TestManyDatagrams(t *testing.T) {
	s := chance(5)
	seen := map[string]datagram{}
	var may, mayNot int
	for range 10000 {
		d := s.datagram()
		b := wrapped(t, d)
		if w, is := seen[string(b)]; is && !sameDatagram(w, d) {
			t.Fatalf("%v and %v are %x", d, w, b)
		}
		seen[string(b)] = d
		c := layDatagram(d)
		c[s.Intn(min(24, len(c)))] = byte(s.between(0, 255))
		if unwraps(t, sealed(c)) {
			may++
		} else {
			mayNot++
		}
		unwraps(t, turned(b, s.Intn(8*len(b)-31), 1+s.Uint32()>>1))
		p := &d.packet
		*[]*int{&d.from, &d.to, &p.Kind, &p.From, &p.To, &p.Seq, &p.Ack}[s.Intn(7)] = edges[s.Intn(len(edges))]
		wraps(t, d)
	}
	if min(may, mayNot) < 1000 {
		t.Errorf("%d, %d", may, mayNot)
	}
}

// R3: what is told is the caller's own, and shares nothing with what was handed in.
func TestDatagramsShareNothing(t *testing.T) {
	p := api.Packet{Kind: api.Data, From: 1, To: 2, Seq: 3, Body: append(make([]byte, 0, 100), "body"...)}
	b, _ := wire.Wrap(1, 2, p)
	want := bytes.Clone(b)
	_, _, one, _ := wire.Unwrap(b)
	_, _, two, _ := wire.Unwrap(b)
	p.Body[0] = 'x'
	if !bytes.Equal(b, want) {
		t.Error("bytes share with the packet")
	}
	for i := range b {
		b[i] = 0
	}
	if string(one.Body) != "body" {
		t.Error("a packet shares with the bytes")
	}
	one.Body[0] = 'y'
	if string(two.Body) != "body" {
		t.Error("two answers share")
	}
}

// P14.1 to P14.3: links bring each other messages, as datagrams.
func TestMessagesByLinks(t *testing.T) {
	a, _ := link.New(1)
	z, _ := link.New(2)
	all := ofEachKind(t)
	for _, m := range all {
		if e := a.Send(encoded(t, m)); e != api.OK {
			t.Fatal(e)
		}
	}
	var brought []api.Message
	carry := func(from, to int, l *link.Link, packets []api.Packet) []api.Packet {
		var answers []api.Packet
		for _, p := range packets {
			d, is := readDatagram(wrapped(t, datagram{from, to, p}))
			if !is {
				t.Fatalf("%v", p)
			}
			bodies, more := l.Take(d.packet)
			for _, b := range bodies {
				m, e := wire.Decode(b)
				if e != api.OK {
					t.Fatalf("Decode(%x): %d", b, e)
				}
				brought = append(brought, m)
			}
			answers = append(answers, more...)
		}
		return answers
	}
	for range 10 {
		carry(4096, 0, a, carry(0, 4096, z, a.Tick()))
	}
	if len(brought) != len(all) {
		t.Fatalf("%d messages", len(brought))
	}
	for i, m := range brought {
		if !sameMessage(m, all[i]) {
			t.Errorf("%v, not %v", m, all[i])
		}
	}
}

// FuzzUnwrap looks for bytes that Unwrap takes wrongly, sealed and as they are.
func FuzzUnwrap(f *testing.F) {
	for _, d := range ofEachPacket() {
		f.Add(layDatagram(d))
		f.Add(sealed(layDatagram(d)))
	}
	f.Fuzz(func(t *testing.T, b []byte) {
		unwraps(t, b)
		unwraps(t, sealed(b))
	})
}

// FuzzWrap looks for datagrams that Wrap takes wrongly.
func FuzzWrap(f *testing.F) {
	f.Add(0, 4096, 3, 1, 0, 1, 0, []byte("body"))
	f.Add(-1, 4097, 1, math.MaxInt, math.MinInt, 0, 0, []byte{})
	f.Fuzz(func(t *testing.T, from, to, kind, own, peer, seq, ack int, body []byte) {
		wraps(t, datagram{from, to, api.Packet{Kind: kind, From: own, To: peer, Seq: seq, Ack: ack, Body: body}})
	})
}

package link_test

import (
	"bytes"
	"math"
	"slices"
	"strconv"
	"testing"

	"pennant/api"
	"pennant/link"
)

const (
	maxNumber  = 1 << 30
	maxBody    = 1500
	maxWaiting = 16
	ahead      = 4
)

// hello, welcome, ack and data are packets; of ack the number is that of the last body that was taken.
func hello(from, to int) api.Packet { return api.Packet{Kind: api.Hello, From: from, To: to} }

func welcome(from, to int) api.Packet { return api.Packet{Kind: api.Welcome, From: from, To: to} }

func ack(from, to, n int) api.Packet {
	return api.Packet{Kind: api.Data, From: from, To: to, Ack: n}
}

func data(from, to, seq, n int, body string) api.Packet {
	return api.Packet{Kind: api.Data, From: from, To: to, Seq: seq, Ack: n, Body: []byte(body)}
}

// nth is the i-th of many bodies, all unlike.
func nth(i int) string { return "body " + strconv.Itoa(i) }

// same tells whether two packets are alike; nil and empty bodies are.
func same(p, q api.Packet) bool {
	return p.Kind == q.Kind && p.From == q.From && p.To == q.To && p.Seq == q.Seq && p.Ack == q.Ack && bytes.Equal(p.Body, q.Body)
}

func made(t testing.TB, epoch int) *link.Link {
	t.Helper()
	l, e := link.New(epoch)
	if e != api.OK || l == nil {
		t.Fatalf("New(%d): %v, %d", epoch, l, e)
	}
	return l
}

// met is a link that knows its peer by a Welcome.
func met(t testing.TB, epoch, peer int) *link.Link {
	t.Helper()
	l := made(t, epoch)
	takes(t, l, welcome(peer, epoch), nil)
	tells(t, l, 0, peer)
	return l
}

func send(t testing.TB, l *link.Link, body string, want api.Errno) {
	t.Helper()
	if e := l.Send([]byte(body)); e != want {
		t.Fatalf("Send of %d bytes: %d, not %d", len(body), e, want)
	}
}

// sends are the Sends of nth(from) to nth(to).
func sends(t testing.TB, l *link.Link, from, to int) {
	t.Helper()
	for i := from; i <= to; i++ {
		send(t, l, nth(i), api.OK)
	}
}

// ticks is a Tick whose packets must be these.
func ticks(t testing.TB, l *link.Link, want ...api.Packet) {
	t.Helper()
	if got := l.Tick(); !slices.EqualFunc(got, want, same) {
		t.Fatalf("Tick: %v, not %v", got, want)
	}
}

// takes is a Take that must bring these bodies, and answer these packets.
func takes(t testing.TB, l *link.Link, p api.Packet, brings []string, want ...api.Packet) {
	t.Helper()
	bodies, got := l.Take(p)
	alike := slices.EqualFunc(bodies, brings, func(b []byte, s string) bool { return string(b) == s })
	if !alike || !slices.EqualFunc(got, want, same) {
		t.Fatalf("Take(%v): %q, %v, not %q, %v", p, bodies, got, brings, want)
	}
}

// tells fails if a link has not this.
func tells(t testing.TB, l *link.Link, waiting, peer int) {
	t.Helper()
	if l.Waiting() != waiting || l.Peer() != peer {
		t.Fatalf("Waiting %d, Peer %d, not %d, %d", l.Waiting(), l.Peer(), waiting, peer)
	}
}

// P13.1: packets that may be, and such that may not, at the edges of each field.
func TestRight(t *testing.T) {
	full := string(make([]byte, maxBody))
	for _, p := range []api.Packet{
		hello(1, 0), hello(maxNumber, maxNumber), hello(7, 7),
		welcome(1, 0), welcome(maxNumber, maxNumber),
		ack(1, 0, 0), ack(maxNumber, maxNumber, maxNumber),
		data(1, 0, 1, 0, ""), data(1, 1, 1, 1, "x"), data(maxNumber, maxNumber, maxNumber, maxNumber, full),
		{Kind: 1, From: 1, Body: []byte{}}, {Kind: 3, From: 1, Body: []byte{}},
	} {
		if !link.Right(p) {
			t.Errorf("%v may be", p)
		}
	}
	for _, p := range []api.Packet{
		{}, {From: 1}, {Kind: -1, From: 1}, {Kind: 4, From: 1}, {Kind: math.MinInt, From: 1}, {Kind: math.MaxInt, From: 1},
		data(1, 1, 1, 1, full+"x"),
		ack(1, 1, -1), ack(1, 1, maxNumber+1), ack(1, 1, math.MaxInt), ack(1, 1, math.MinInt),
		data(1, 1, -1, 0, ""), data(1, 1, maxNumber+1, 0, ""), data(1, 1, math.MaxInt, 0, "x"), data(1, 1, math.MinInt, 0, "x"),
		data(1, 1, 0, 0, "x"), data(1, 1, 0, 5, full),
	} {
		if link.Right(p) {
			t.Errorf("%v may not be", p)
		}
	}
	for kind := api.Hello; kind <= api.Data; kind++ {
		for _, n := range []int{math.MinInt, -maxNumber, -1, 0, maxNumber + 1, 1 << 31, 1 << 32, 1<<32 + 1, math.MaxInt} {
			if link.Right(api.Packet{Kind: kind, From: n, To: 1}) {
				t.Errorf("kind %d from %d", kind, n)
			}
			if n != 0 && link.Right(api.Packet{Kind: kind, From: 1, To: n}) {
				t.Errorf("kind %d to %d", kind, n)
			}
		}
		if kind == api.Data {
			continue
		}
		for _, p := range []api.Packet{
			{Kind: kind, From: 1, To: 1, Seq: 1}, {Kind: kind, From: 1, To: 1, Ack: 1}, {Kind: kind, From: 1, To: 1, Body: []byte{0}},
			{Kind: kind, From: 1, To: 1, Seq: 1, Body: []byte{0}}, {Kind: kind, From: 1, To: 1, Seq: -1}, {Kind: kind, From: 1, To: 1, Ack: -1},
		} {
			if link.Right(p) {
				t.Errorf("%v may not be", p)
			}
		}
	}
}

// P13.1: epochs that may be, and such that may not.
func TestNew(t *testing.T) {
	for _, epoch := range []int{1, 2, 4096, maxNumber - 1, maxNumber} {
		l := made(t, epoch)
		tells(t, l, 0, 0)
		ticks(t, l, hello(epoch, 0))
	}
	for _, epoch := range []int{math.MinInt, -maxNumber, -1, 0, maxNumber + 1, 1 << 31, 1<<32 + 1, math.MaxInt} {
		if l, e := link.New(epoch); l != nil || e != api.ErrArg {
			t.Errorf("New(%d): %v, %d", epoch, l, e)
		}
	}
}

// The chapter's example.
func TestExample(t *testing.T) {
	a, b := made(t, 1), made(t, 2)
	ticks(t, a, hello(1, 0))
	takes(t, b, hello(1, 0), nil, welcome(2, 1))
	tells(t, b, 0, 1)
	takes(t, a, welcome(2, 1), nil)
	tells(t, a, 0, 2)
}

// P13.2: bodies of up to 1500 bytes wait, up to 16 of them, whether the peer is known or not; the length is asked ahead of the room.
func TestSend(t *testing.T) {
	full := string(make([]byte, maxBody))
	for _, l := range []*link.Link{made(t, 3), met(t, 3, 5)} {
		peer := l.Peer()
		for i, body := range []string{"", "x", full[1:], full} {
			send(t, l, body, api.OK)
			send(t, l, full+"x", api.ErrArg)
			send(t, l, full+full, api.ErrArg)
			tells(t, l, i+1, peer)
		}
		sends(t, l, 5, maxWaiting)
		for range 2 {
			tells(t, l, maxWaiting, peer)
			send(t, l, "", api.ErrFull)
			send(t, l, "x", api.ErrFull)
			send(t, l, full, api.ErrFull)
			send(t, l, full+"x", api.ErrArg)
		}
	}
}

// P13.2: as soon as one is gone there is room for one more, behind all others; those that were refused are not among them.
func TestSendBehindAll(t *testing.T) {
	l := met(t, 3, 5)
	sends(t, l, 1, maxWaiting)
	send(t, l, "lost", api.ErrFull)
	for i := 1; i <= 100; i++ {
		for _, p := range l.Tick() {
			if want := data(3, 5, p.Seq, 0, nth(p.Seq)); !same(p, want) || p.Seq < i || p.Seq >= i+ahead {
				t.Fatalf("%v, not %v", p, want)
			}
		}
		send(t, l, "lost", api.ErrFull)
		takes(t, l, ack(5, 3, i), nil)
		tells(t, l, maxWaiting-1, 5)
		sends(t, l, maxWaiting+i, maxWaiting+i)
		tells(t, l, maxWaiting, 5)
	}
}

// P13.3: as long as the peer is not known, each Tick is a Hello, also if bodies wait; no timer runs.
func TestTickUnknown(t *testing.T) {
	l := made(t, 9)
	for i := range 10 {
		ticks(t, l, hello(9, 0))
		sends(t, l, i+1, i+1)
	}
	tells(t, l, 10, 0)
	takes(t, l, welcome(4, 9), nil)
	tells(t, l, 10, 4)
	ticks(t, l, data(9, 4, 1, 0, nth(1)), data(9, 4, 2, 0, nth(2)), data(9, 4, 3, 0, nth(3)), data(9, 4, 4, 0, nth(4)))
	ticks(t, l)
	ticks(t, l)
	ticks(t, l, data(9, 4, 1, 0, nth(1)), data(9, 4, 2, 0, nth(2)), data(9, 4, 3, 0, nth(3)), data(9, 4, 4, 0, nth(4)))
}

// P13.3: where nothing waits, or nothing was sent, no moment counts.
func TestTickIdle(t *testing.T) {
	l := met(t, 1, 2)
	for range 7 {
		ticks(t, l)
	}
	for i := 1; i <= 3; i++ {
		sends(t, l, i, i)
		ticks(t, l, data(1, 2, i, 0, nth(i)))
		ticks(t, l)
		ticks(t, l)
		takes(t, l, ack(2, 1, i), nil)
		for range 7 {
			ticks(t, l)
		}
	}
}

// P13.3: at most four are on the way; each is sent once, and all again at the third moment behind it, again and again.
func TestTickWindow(t *testing.T) {
	for n := 1; n <= maxWaiting; n++ {
		l := met(t, 1, 2)
		sends(t, l, 1, n)
		var want []api.Packet
		for i := 1; i <= min(n, ahead); i++ {
			want = append(want, data(1, 2, i, 0, nth(i)))
		}
		for range 5 {
			ticks(t, l, want...)
			ticks(t, l)
			ticks(t, l)
		}
		tells(t, l, n, 2)
	}
}

// P13.3: bodies that come to wait later are sent as long as less than four are on the way, and do not hold the timer up; when it ends, all are sent again, those of just now, too.
func TestTickLater(t *testing.T) {
	l := met(t, 1, 2)
	sends(t, l, 1, 1)
	ticks(t, l, data(1, 2, 1, 0, nth(1)))
	sends(t, l, 2, 2)
	ticks(t, l, data(1, 2, 2, 0, nth(2)))
	sends(t, l, 3, 4)
	ticks(t, l, data(1, 2, 3, 0, nth(3)), data(1, 2, 4, 0, nth(4)))
	sends(t, l, 5, 6)
	all := []api.Packet{data(1, 2, 1, 0, nth(1)), data(1, 2, 2, 0, nth(2)), data(1, 2, 3, 0, nth(3)), data(1, 2, 4, 0, nth(4))}
	ticks(t, l, all...)
	ticks(t, l)
	ticks(t, l)
	ticks(t, l, all...)
}

// P13.3, P13.4: where some are gone, the next ones follow, and the timer begins again; where none is, it goes on.
func TestTickGone(t *testing.T) {
	l := met(t, 1, 2)
	sends(t, l, 1, 8)
	ticks(t, l, data(1, 2, 1, 0, nth(1)), data(1, 2, 2, 0, nth(2)), data(1, 2, 3, 0, nth(3)), data(1, 2, 4, 0, nth(4)))
	ticks(t, l)
	ticks(t, l)
	takes(t, l, ack(2, 1, 2), nil)
	tells(t, l, 6, 2)
	ticks(t, l, data(1, 2, 5, 0, nth(5)), data(1, 2, 6, 0, nth(6)))
	ticks(t, l)
	for n := range 3 { // of what is gone already
		takes(t, l, ack(2, 1, n), nil)
	}
	tells(t, l, 6, 2)
	ticks(t, l, data(1, 2, 3, 0, nth(3)), data(1, 2, 4, 0, nth(4)), data(1, 2, 5, 0, nth(5)), data(1, 2, 6, 0, nth(6)))
	takes(t, l, ack(2, 1, 6), nil)
	tells(t, l, 2, 2)
	ticks(t, l, data(1, 2, 7, 0, nth(7)), data(1, 2, 8, 0, nth(8)))
	ticks(t, l)
	takes(t, l, ack(2, 1, 7), nil)
	ticks(t, l)
	ticks(t, l)
	ticks(t, l, data(1, 2, 8, 0, nth(8)))
	takes(t, l, ack(2, 1, 8), nil)
	tells(t, l, 0, 2)
}

// P13.4: an acknowledgement lets go what it tells of, if that was sent; of numbers beyond that none is gone.
func TestAckEdges(t *testing.T) {
	for was := range 4 { // bodies that are gone already
		for sent := range ahead + 1 {
			for n := range was + sent + 8 {
				l := met(t, 1, 2)
				sends(t, l, 1, was)
				l.Tick()
				takes(t, l, ack(2, 1, was), nil)
				tells(t, l, 0, 2)
				sends(t, l, was+1, was+sent)
				l.Tick()
				sends(t, l, was+sent+1, was+6)
				takes(t, l, ack(2, 1, n), nil)
				gone := 0
				if n > was && n <= was+sent {
					gone = n - was
				}
				tells(t, l, 6-gone, 2)
				var want []api.Packet
				for i := was + sent + 1; i <= min(was+6, was+gone+ahead); i++ {
					want = append(want, data(1, 2, i, 0, nth(i)))
				}
				ticks(t, l, want...)
			}
		}
	}
	l := met(t, 1, 2)
	sends(t, l, 1, 6)
	l.Tick()
	for _, n := range []int{5, 6, 7, maxNumber, maxNumber + 1, math.MaxInt, 0, -1, math.MinInt} {
		takes(t, l, ack(2, 1, n), nil)
		tells(t, l, 6, 2)
	}
	takes(t, l, ack(2, 1, 4), nil)
	tells(t, l, 2, 2)
}

// P13.4: what waits and was never sent, or was sent to an older peer alone, is not gone by any number.
func TestAckOfUnsent(t *testing.T) {
	l := met(t, 1, 2)
	sends(t, l, 1, 3)
	for n := range 5 {
		takes(t, l, ack(2, 1, n), nil)
		tells(t, l, 3, 2)
	}
	l.Tick()
	takes(t, l, hello(3, 0), nil, welcome(1, 3))
	for n := range 5 {
		takes(t, l, ack(3, 1, n), nil)
		tells(t, l, 3, 3)
	}
	ticks(t, l, data(1, 3, 1, 0, nth(1)), data(1, 3, 2, 0, nth(2)), data(1, 3, 3, 0, nth(3)))
}

// P13.4: a body is brought if its number is the next one, and each number but 0 is answered with what was taken.
func TestTakeData(t *testing.T) {
	l := met(t, 7, 5)
	takes(t, l, data(5, 7, 2, 0, "early"), nil, ack(7, 5, 0))
	takes(t, l, data(5, 7, 1, 0, "one"), []string{"one"}, ack(7, 5, 1))
	takes(t, l, data(5, 7, 1, 0, "one"), nil, ack(7, 5, 1))
	takes(t, l, data(5, 7, 3, 0, "early"), nil, ack(7, 5, 1))
	takes(t, l, data(5, 7, maxNumber, 0, "early"), nil, ack(7, 5, 1))
	takes(t, l, ack(5, 7, 0), nil)
	takes(t, l, data(5, 7, 2, 0, ""), []string{""}, ack(7, 5, 2))
	takes(t, l, data(5, 7, 1, 0, "other"), nil, ack(7, 5, 2))
	full := string(bytes.Repeat([]byte{255}, maxBody))
	takes(t, l, data(5, 7, 3, 0, full), []string{full}, ack(7, 5, 3))
	tells(t, l, 0, 5)
	send(t, l, "mine", api.OK)
	ticks(t, l, data(7, 5, 1, 3, "mine"))
	takes(t, l, data(5, 7, 4, 0, "four"), []string{"four"}, ack(7, 5, 4))
	ticks(t, l)
	ticks(t, l)
	ticks(t, l, data(7, 5, 1, 4, "mine"))
}

// P13.4: a packet with a body acknowledges, too, whether its body is brought or not.
func TestTakeBoth(t *testing.T) {
	for seq := range 4 {
		l := met(t, 7, 5)
		takes(t, l, data(5, 7, 1, 0, "one"), []string{"one"}, ack(7, 5, 1))
		sends(t, l, 1, 3)
		l.Tick()
		switch seq {
		case 0:
			takes(t, l, ack(5, 7, 2), nil)
		case 2:
			takes(t, l, data(5, 7, 2, 2, "two"), []string{"two"}, ack(7, 5, 2))
		default:
			takes(t, l, data(5, 7, seq, 2, "other"), nil, ack(7, 5, 1))
		}
		tells(t, l, 1, 5)
	}
	l := met(t, 7, 5)
	sends(t, l, 1, 3)
	l.Tick()
	takes(t, l, data(5, 7, 1, 4, "one"), []string{"one"}, ack(7, 5, 1)) // 4 was not sent: none is gone, but the body is brought
	tells(t, l, 3, 5)
}

// P13.4: Data that is to another epoch, or from one that is not known yet, is answered with a Hello, and nothing else is done.
func TestTakeOtherData(t *testing.T) {
	l := made(t, 7)
	send(t, l, "mine", api.OK)
	for _, from := range []int{1, 7, maxNumber} { // the peer is not known
		for _, to := range []int{0, 6, 7, 8} {
			takes(t, l, data(from, to, 1, 0, "one"), nil, hello(7, 0))
			takes(t, l, ack(from, to, 1), nil, hello(7, 0))
			tells(t, l, 1, 0)
		}
	}
	takes(t, l, welcome(5, 7), nil)
	ticks(t, l, data(7, 5, 1, 0, "mine"))
	for _, from := range []int{5, 6, maxNumber} {
		for _, to := range []int{0, 6, 7, 8, maxNumber} {
			if from == 5 && to == 7 {
				continue
			}
			takes(t, l, data(from, to, 1, 1, "one"), nil, hello(7, 5))
			takes(t, l, ack(from, to, 1), nil, hello(7, 5))
			takes(t, l, ack(from, to, 0), nil, hello(7, 5))
			tells(t, l, 1, 5)
		}
	}
	takes(t, l, data(5, 7, 1, 1, "one"), []string{"one"}, ack(7, 5, 1))
	tells(t, l, 0, 5)
}

// P13.4: what comes from an epoch that is less than the peer's is nothing, of each kind.
func TestTakeOlder(t *testing.T) {
	l := met(t, 7, 5)
	sends(t, l, 1, 2)
	ticks(t, l, data(7, 5, 1, 0, nth(1)), data(7, 5, 2, 0, nth(2)))
	for from := 1; from < 5; from++ {
		for _, to := range []int{0, 5, 7, 9} {
			takes(t, l, hello(from, to), nil)
			takes(t, l, welcome(from, to), nil)
			takes(t, l, data(from, to, 1, 2, "one"), nil)
			takes(t, l, ack(from, to, 1), nil)
			tells(t, l, 2, 5)
		}
	}
	takes(t, l, data(5, 7, 1, 1, "one"), []string{"one"}, ack(7, 5, 1))
	tells(t, l, 1, 5)
}

// P13.4: what may not be is nothing, though it would else be the next body, an acknowledgement, or a greeting.
func TestTakeWrongly(t *testing.T) {
	l := met(t, 7, 5)
	sends(t, l, 1, 2)
	l.Tick()
	long := string(make([]byte, maxBody+1))
	for _, p := range []api.Packet{
		{}, {Kind: 0, From: 5, To: 7, Seq: 1, Ack: 1}, {Kind: 4, From: 5, To: 7, Seq: 1, Ack: 1}, {Kind: -3, From: 5, To: 7},
		data(5, 7, 1, 1, long), data(5, 7, 0, 1, "x"), data(5, 7, -1, 1, ""), data(5, 7, 1, -1, ""), data(5, 7, 1, maxNumber+1, ""), data(5, 7, maxNumber+1, 1, ""),
		data(0, 7, 1, 1, ""), data(-5, 7, 1, 1, ""), data(maxNumber+1, 7, 1, 1, ""), data(6, -1, 1, 1, ""), data(6, maxNumber+1, 1, 1, ""),
		hello(0, 0), hello(-1, 0), hello(maxNumber+1, 0), hello(9, -1), hello(9, maxNumber+1), welcome(maxNumber+1, 7),
		{Kind: api.Hello, From: 9, To: 7, Seq: 1}, {Kind: api.Hello, From: 9, To: 7, Ack: 1}, {Kind: api.Hello, From: 9, To: 7, Body: []byte("x")},
		{Kind: api.Welcome, From: 9, To: 7, Seq: 1}, {Kind: api.Welcome, From: 9, To: 7, Ack: 1}, {Kind: api.Welcome, From: 9, To: 7, Body: []byte("x")},
	} {
		takes(t, l, p, nil)
		tells(t, l, 2, 5)
	}
	takes(t, l, data(5, 7, 1, 2, "one"), []string{"one"}, ack(7, 5, 1))
	tells(t, l, 0, 5)
}

// P13.4: each Hello that is not older is answered with a Welcome, to whomever it is; only a greater epoch begins anew.
func TestTakeHello(t *testing.T) {
	for _, to := range []int{0, 6, 7, 8, maxNumber} {
		l := made(t, 7)
		sends(t, l, 1, 2)
		takes(t, l, hello(3, to), nil, welcome(7, 3))
		tells(t, l, 2, 3)
		ticks(t, l, data(7, 3, 1, 0, nth(1)), data(7, 3, 2, 0, nth(2)))
		takes(t, l, data(3, 7, 1, 1, "one"), []string{"one"}, ack(7, 3, 1))
		ticks(t, l)
		takes(t, l, hello(3, to), nil, welcome(7, 3)) // known: nothing is anew
		tells(t, l, 1, 3)
		takes(t, l, data(3, 7, 1, 1, "one"), nil, ack(7, 3, 1))
		ticks(t, l)
		ticks(t, l, data(7, 3, 2, 1, nth(2)))
		takes(t, l, hello(maxNumber, to), nil, welcome(7, maxNumber))
		tells(t, l, 1, maxNumber)
		takes(t, l, hello(maxNumber-1, to), nil)
	}
}

// P13.4: a Welcome counts only if it is to the epoch; it is never answered, and only a greater epoch begins anew.
func TestTakeWelcome(t *testing.T) {
	l := made(t, 7)
	sends(t, l, 1, 2)
	for _, to := range []int{0, 6, 8, maxNumber} {
		takes(t, l, welcome(3, to), nil)
		tells(t, l, 2, 0)
	}
	takes(t, l, welcome(3, 7), nil)
	tells(t, l, 2, 3)
	ticks(t, l, data(7, 3, 1, 0, nth(1)), data(7, 3, 2, 0, nth(2)))
	takes(t, l, data(3, 7, 1, 1, "one"), []string{"one"}, ack(7, 3, 1))
	ticks(t, l)
	takes(t, l, welcome(3, 7), nil) // known: nothing is anew
	for _, to := range []int{0, 6, 8, maxNumber} {
		takes(t, l, welcome(4, to), nil)
		tells(t, l, 1, 3)
	}
	takes(t, l, data(3, 7, 1, 1, "one"), nil, ack(7, 3, 1))
	ticks(t, l)
	ticks(t, l, data(7, 3, 2, 1, nth(2)))
	takes(t, l, welcome(4, 7), nil)
	tells(t, l, 1, 4)
	ticks(t, l, data(7, 4, 1, 0, nth(2)))
}

// The peer is anew: all numbers begin again, the timer, too, and what waits stays, and is sent to it.
func TestAnew(t *testing.T) {
	greetings := map[string]func(*link.Link){
		"Hello":   func(l *link.Link) { takes(t, l, hello(9, 0), nil, welcome(7, 9)) },
		"Welcome": func(l *link.Link) { takes(t, l, welcome(9, 7), nil) },
	}
	for name, greet := range greetings {
		for moments := range 2 {
			l := met(t, 7, 3)
			sends(t, l, 1, 6)
			l.Tick()
			takes(t, l, data(3, 7, 1, 1, "one"), []string{"one"}, ack(7, 3, 1))
			takes(t, l, data(3, 7, 2, 1, "two"), []string{"two"}, ack(7, 3, 2))
			l.Tick()
			for range moments {
				ticks(t, l)
			}
			greet(l)
			tells(t, l, 5, 9)
			all := []api.Packet{data(7, 9, 1, 0, nth(2)), data(7, 9, 2, 0, nth(3)), data(7, 9, 3, 0, nth(4)), data(7, 9, 4, 0, nth(5))}
			ticks(t, l, all...)
			ticks(t, l)
			ticks(t, l)
			ticks(t, l, all...)
			takes(t, l, data(3, 7, 3, 4, "three"), nil) // the old one's
			takes(t, l, data(9, 7, 3, 0, "three"), nil, ack(7, 9, 0))
			takes(t, l, data(9, 7, 1, 4, "new one"), []string{"new one"}, ack(7, 9, 1))
			tells(t, l, 1, 9)
			ticks(t, l, data(7, 9, 5, 1, nth(6)))
			if t.Failed() {
				t.Fatal(name)
			}
		}
	}
}

// A link that begins anew is told by a greater epoch: the other one's Data is answered with a Hello, and both go on.
func TestBeginsAnew(t *testing.T) {
	a, b := met(t, 1, 2), made(t, 2)
	takes(t, b, hello(1, 0), nil, welcome(2, 1))
	sends(t, a, 1, 2)
	p := a.Tick()
	takes(t, b, p[0], []string{nth(1)}, ack(2, 1, 1))
	takes(t, a, ack(2, 1, 1), nil)

	b = made(t, 3)
	takes(t, b, p[1], nil, hello(3, 0))
	takes(t, a, hello(3, 0), nil, welcome(1, 3))
	takes(t, b, welcome(1, 3), nil)
	tells(t, a, 1, 3)
	tells(t, b, 0, 1)
	ticks(t, a, data(1, 3, 1, 0, nth(2)))
	takes(t, b, data(1, 3, 1, 0, nth(2)), []string{nth(2)}, ack(3, 1, 1))
	takes(t, a, ack(2, 1, 1), nil) // of the one that is no more
	tells(t, a, 1, 3)
	takes(t, a, ack(3, 1, 1), nil)
	tells(t, a, 0, 3)
}

// R2: nil and empty bodies are the same, handed in and out.
func TestEmptyBodies(t *testing.T) {
	for _, body := range [][]byte{nil, {}} {
		a, b := met(t, 1, 2), met(t, 2, 1)
		if e := a.Send(body); e != api.OK {
			t.Fatal(e)
		}
		tells(t, a, 1, 2)
		ticks(t, a, data(1, 2, 1, 0, ""))
		takes(t, b, api.Packet{Kind: api.Data, From: 1, To: 2, Seq: 1, Body: body}, []string{""}, ack(2, 1, 1))
		takes(t, a, api.Packet{Kind: api.Data, From: 2, To: 1, Ack: 1, Body: body}, nil)
		tells(t, a, 0, 2)
		takes(t, a, api.Packet{Kind: api.Hello, From: 3, Body: body}, nil, welcome(1, 3))
	}
}

// R3: a body that was handed in may be changed by its owner, and what is told is the caller's own.
func TestBodiesAreOwn(t *testing.T) {
	a, b := met(t, 1, 2), met(t, 2, 1)
	body := []byte("body")
	for range 2 {
		if e := a.Send(body); e != api.OK {
			t.Fatal(e)
		}
	}
	copy(body, "xxxx")
	p := a.Tick()
	copy(p[0].Body, "yyyy")
	_ = append(p[0].Body, "zzzz"...)
	if want := data(1, 2, 2, 0, "body"); !same(p[1], want) {
		t.Fatalf("%v, not %v", p[1], want)
	}
	ticks(t, a)
	ticks(t, a)
	ticks(t, a, data(1, 2, 1, 0, "body"), data(1, 2, 2, 0, "body"))

	bodies, _ := b.Take(p[1]) // it is not the next one
	if len(bodies) != 0 || string(p[1].Body) != "body" {
		t.Fatalf("%q, %v", bodies, p[1])
	}
	q := data(1, 2, 1, 0, "told")
	bodies, _ = b.Take(q)
	copy(bodies[0], "xxxx")
	if string(q.Body) != "told" {
		t.Fatalf("%v", q)
	}
	bodies, _ = b.Take(data(1, 2, 2, 0, "more"))
	copy(q.Body, "yyyy")
	if string(bodies[0]) != "more" {
		t.Fatalf("%q", bodies)
	}
}

// R4: links know nothing of each other, and a call that does not change tells the same twice.
func TestLinksApart(t *testing.T) {
	a, b := met(t, 1, 2), made(t, 1)
	sends(t, a, 1, 3)
	tells(t, b, 0, 0)
	ticks(t, b, hello(1, 0))
	takes(t, b, hello(9, 0), nil, welcome(1, 9))
	sends(t, b, 11, 11)
	ticks(t, a, data(1, 2, 1, 0, nth(1)), data(1, 2, 2, 0, nth(2)), data(1, 2, 3, 0, nth(3)))
	ticks(t, b, data(1, 9, 1, 0, nth(11)))
	tells(t, a, 3, 2)
	tells(t, a, 3, 2)
}

package link_test

import (
	"bytes"
	"math/rand"
	"slices"
	"strconv"
	"testing"

	"pennant/api"
	"pennant/link"
)

// source is the same numbers in each run of the tests.
func source(seed int64) *rand.Rand { return rand.New(rand.NewSource(seed)) }

// said is a body by its number, whether it counts as sent, and whether it is gone.
type said struct {
	body       []byte
	sent, gone bool
}

// slow is a second link, that keeps each body it was ever given for its peer, with what became of it, and counts at each call.
type slow struct {
	epoch, peer int
	said        []said // the number of each is one more than its place
	taken       int    // bodies of the peer
	timer       int
}

// slowRight tells whether a packet may be.
func slowRight(p api.Packet) bool {
	for _, n := range []int{p.To, p.Seq, p.Ack} {
		if max(0, min(n, maxNumber)) != n {
			return false
		}
	}
	if p.From <= 0 || p.From > maxNumber || len(p.Body) > maxBody {
		return false
	}
	switch p.Kind {
	case 1, 2:
		return p.Seq+p.Ack+len(p.Body) == 0
	case 3:
		return p.Seq > 0 || len(p.Body) == 0
	}
	return false
}

// waiting are the places of the bodies that wait.
func (s *slow) waiting() []int {
	var l []int
	for i, x := range s.said {
		if !x.gone {
			l = append(l, i)
		}
	}
	return l
}

// sent is how many of those that wait count as sent.
func (s *slow) sent() int {
	n := 0
	for _, i := range s.waiting() {
		if s.said[i].sent {
			n++
		}
	}
	return n
}

func (s *slow) send(b []byte) api.Errno {
	if len(b) > maxBody {
		return api.ErrArg
	}
	if len(s.waiting()) >= maxWaiting {
		return api.ErrFull
	}
	s.said = append(s.said, said{body: bytes.Clone(b)})
	return api.OK
}

func (s *slow) tick() []api.Packet {
	if s.peer == 0 {
		return []api.Packet{hello(s.epoch, 0)}
	}
	if s.sent() > 0 {
		s.timer = (s.timer + 1) % 3
		if s.timer == 0 {
			for i := range s.said {
				s.said[i].sent = false
			}
		}
	}
	var l []api.Packet
	for k, i := range s.waiting() {
		if k < ahead && !s.said[i].sent {
			s.said[i].sent = true
			l = append(l, data(s.epoch, s.peer, i+1, s.taken, string(s.said[i].body)))
		}
	}
	return l
}

// meet is a slow link with another peer, that has of what was said only what waits.
func (s *slow) meet(peer int) {
	if peer <= s.peer {
		return
	}
	anew := slow{epoch: s.epoch, peer: peer}
	for _, i := range s.waiting() {
		anew.said = append(anew.said, said{body: s.said[i].body})
	}
	*s = anew
}

// acknowledge lets bodies go, if the last of them, and so all, are such that count as sent, or are gone.
func (s *slow) acknowledge(n int) {
	upTo := 0
	for upTo < len(s.said) && (s.said[upTo].gone || s.said[upTo].sent) {
		upTo++
	}
	if n > upTo {
		return
	}
	for i := range n {
		if !s.said[i].gone {
			s.said[i].gone, s.timer = true, 0
		}
	}
}

func (s *slow) take(p api.Packet) ([]string, []api.Packet) {
	switch {
	case !slowRight(p) || p.From < s.peer:
		return nil, nil
	case p.Kind == 1:
		s.meet(p.From)
		return nil, []api.Packet{welcome(s.epoch, s.peer)}
	case p.Kind == 2 && p.To == s.epoch:
		s.meet(p.From)
		return nil, nil
	case p.Kind == 2:
		return nil, nil
	case p.To != s.epoch || p.From > s.peer:
		return nil, []api.Packet{hello(s.epoch, s.peer)}
	}
	s.acknowledge(p.Ack)
	switch p.Seq {
	case 0:
		return nil, nil
	case s.taken + 1:
		s.taken++
		return []string{string(p.Body)}, []api.Packet{ack(s.epoch, s.peer, s.taken)}
	}
	return nil, []api.Packet{ack(s.epoch, s.peer, s.taken)}
}

// both is a link and a slow one, that must tell the same.
type both struct {
	l *link.Link
	s *slow
}

func begin(t testing.TB, epoch int) both {
	t.Helper()
	return both{l: made(t, epoch), s: &slow{epoch: epoch}}
}

func (x both) alike(t testing.TB) {
	t.Helper()
	tells(t, x.l, len(x.s.waiting()), x.s.peer)
}

func (x both) send(t testing.TB, body string) bool {
	t.Helper()
	e := x.s.send([]byte(body))
	send(t, x.l, body, e)
	x.alike(t)
	return e == api.OK
}

func (x both) tick(t testing.TB) []api.Packet {
	t.Helper()
	l := x.s.tick()
	ticks(t, x.l, l...)
	x.alike(t)
	return l
}

func (x both) take(t testing.TB, p api.Packet) ([]string, []api.Packet) {
	t.Helper()
	brings, answers := x.s.take(p)
	takes(t, x.l, p, brings, answers...)
	x.alike(t)
	return brings, answers
}

// chanceNumber is one of few, or one at an edge, and seldom one that may not be.
func chanceNumber(r *rand.Rand) int {
	switch r.Intn(30) {
	case 0:
		return []int{-1, maxNumber + 1, -maxNumber, 1 << 32}[r.Intn(4)]
	case 1:
		return maxNumber - r.Intn(2)
	}
	return r.Intn(6)
}

// chancePacket is one that mostly may be, and mostly is of such a link as there is.
func chancePacket(r *rand.Rand, s *slow) api.Packet {
	p := api.Packet{Kind: []int{1, 2, 3, 3, 3, 3, 3, 3, r.Intn(7) - 1}[r.Intn(9)], From: s.peer, To: s.epoch}
	if r.Intn(4) == 0 {
		p.From = chanceNumber(r)
	}
	if r.Intn(5) == 0 {
		p.To = chanceNumber(r)
	}
	if p.Kind == 3 || r.Intn(20) == 0 {
		p.Seq = max(0, s.taken+r.Intn(4)-1)
		p.Ack = max(0, len(s.said)-len(s.waiting())+r.Intn(8)-2)
	}
	if r.Intn(12) == 0 {
		*[]*int{&p.Seq, &p.Ack}[r.Intn(2)] = chanceNumber(r)
	}
	if p.Seq != 0 || r.Intn(20) == 0 {
		p.Body = make([]byte, []int{0, 1, 9, 9, 9, maxBody - r.Intn(2), maxBody + r.Intn(2)}[r.Intn(7)])
	}
	return p
}

// P13.1: Right by chance.
func TestRightByChance(t *testing.T) {
	r := source(130)
	may := 0
	for range 50000 {
		p := chancePacket(r, &slow{epoch: 1 + r.Intn(4), peer: r.Intn(4)})
		if link.Right(p) != slowRight(p) {
			t.Fatalf("Right(%v)", p)
		}
		if slowRight(p) {
			may++
		}
	}
	if may < 10000 || may > 40000 {
		t.Fatalf("%d of them may be", may)
	}
}

// P13.1 to P13.4: whatever is sent, and whatever comes, a link tells what the slow one does.
func TestLinksByChance(t *testing.T) {
	r := source(131)
	times := map[string]int{}
	for range 800 {
		x := begin(t, []int{1, 2, 3, maxNumber}[r.Intn(4)])
		for i := range 150 {
			switch r.Intn(4) {
			case 0:
				for range 1 + r.Intn(5) {
					if !x.send(t, nth(i)+string(make([]byte, []int{0, 0, 0, maxBody}[r.Intn(4)]))) {
						times["refused"]++
					}
				}
			case 1:
				times["ticked"] += len(x.tick(t))
			default:
				was, wait := x.s.peer, len(x.s.waiting())
				brings, _ := x.take(t, chancePacket(r, x.s))
				times["brought"] += len(brings)
				times["gone"] += wait - len(x.s.waiting())
				if was != 0 && was != x.s.peer {
					times["anew"]++
				}
			}
		}
	}
	for _, what := range []string{"refused", "ticked", "brought", "gone", "anew"} {
		if times[what] < 400 {
			t.Fatalf("%s: %d", what, times[what])
		}
	}
}

// end is one end of a line: its link, what was sent on it, and what the other one sent and it brought.
type end struct {
	both
	sent, brought []string
}

// line is two links and, for each, the packets that are on the way to it.
type line struct {
	ends [2]end
	way  [2][]api.Packet
}

func newLine(t testing.TB, a, b int) *line {
	t.Helper()
	return &line{ends: [2]end{{both: begin(t, a)}, {both: begin(t, b)}}}
}

// holds fails if what one end brought is no beginning of what the other one sent, or less than that one let go.
func (n *line) holds(t testing.TB) {
	t.Helper()
	for i := range n.ends {
		from, to := &n.ends[i], &n.ends[1-i]
		if len(to.brought) > len(from.sent) || !slices.Equal(to.brought, from.sent[:len(to.brought)]) {
			t.Fatalf("brought %q of %q", to.brought, from.sent)
		}
		if gone := len(from.sent) - from.l.Waiting(); gone > len(to.brought) {
			t.Fatalf("%d are gone, and %d were brought", gone, len(to.brought))
		}
	}
}

func (n *line) send(t testing.TB, i int) {
	t.Helper()
	x := &n.ends[i]
	if body := strconv.Itoa(i) + ":" + nth(len(x.sent)); x.send(t, body) {
		x.sent = append(x.sent, body)
	}
	n.holds(t)
}

func (n *line) tick(t testing.TB, i int) {
	t.Helper()
	n.way[1-i] = append(n.way[1-i], n.ends[i].tick(t)...)
	n.holds(t)
}

// take lets the k-th packet on the way come to an end; it stays on the way, too, if it is doubled.
func (n *line) take(t testing.TB, i, k int, doubled bool) {
	t.Helper()
	p := n.way[i][k]
	if !doubled {
		n.lose(i, k)
	}
	brings, answers := n.ends[i].take(t, p)
	n.ends[i].brought = append(n.ends[i].brought, brings...)
	n.way[1-i] = append(n.way[1-i], answers...)
	n.holds(t)
}

func (n *line) lose(i, k int) { n.way[i] = slices.Delete(n.way[i], k, k+1) }

// calm lets all come that is on the way, and what follows from it; nothing is lost any more.
func (n *line) calm(t testing.TB) {
	t.Helper()
	for moment := 0; n.ends[0].l.Waiting()+n.ends[1].l.Waiting() > 0; moment++ {
		if moment > 60 {
			t.Fatalf("%d and %d wait", n.ends[0].l.Waiting(), n.ends[1].l.Waiting())
		}
		for i := range n.ends {
			n.tick(t, i)
		}
		for len(n.way[0])+len(n.way[1]) > 0 {
			for i := range n.ends {
				if len(n.way[i]) > 0 {
					n.take(t, i, 0, false)
				}
			}
		}
	}
	for i := range n.ends {
		if !slices.Equal(n.ends[1-i].brought, n.ends[i].sent) {
			t.Fatalf("brought %q of %q", n.ends[1-i].brought, n.ends[i].sent)
		}
	}
}

// step does what a number says: of 12 each is possible, and a greater one picks the packet.
func (n *line) step(t testing.TB, do int) {
	t.Helper()
	i, pick := do%2, do/12
	some := len(n.way[i]) > 0
	switch do / 2 % 6 {
	case 0:
		n.send(t, i)
	case 1:
		n.tick(t, i)
	case 2, 3: // twice as often as it is lost
		if some {
			n.take(t, i, pick%len(n.way[i]), false)
		}
	case 4:
		if some {
			n.take(t, i, pick%len(n.way[i]), true)
		}
	case 5:
		if some {
			n.lose(i, pick%len(n.way[i]))
		}
	}
}

// P13.5: of two links, whatever is lost, doubled and turned round, what is brought is a beginning of what was sent, and what is gone was brought; when nothing is lost any more, all is.
func TestLinesByChance(t *testing.T) {
	r := source(132)
	brought := 0
	for range 600 {
		n := newLine(t, 1+r.Intn(3), 1+r.Intn(3))
		for range r.Intn(400) {
			n.step(t, r.Intn(12*97))
		}
		n.calm(t)
		for range 3 { // and it goes on
			n.send(t, r.Intn(2))
			n.calm(t)
		}
		brought += len(n.ends[0].brought) + len(n.ends[1].brought)
	}
	if brought < 10000 {
		t.Fatalf("%d were brought", brought)
	}
}

// P13.5: each script of six steps, from the first Hello on, and from where both are known.
func TestEachShortLine(t *testing.T) {
	const steps = 6
	for _, known := range []bool{false, true} {
		for script := range 1 << (2 * steps) { // four doings a step
			n := newLine(t, 1, 2)
			n.send(t, 0)
			n.send(t, 0)
			n.send(t, 1)
			if known {
				n.tick(t, 0)
				n.take(t, 1, 0, false)
				n.take(t, 0, 0, false)
			}
			for s := script; s > 0; s /= 4 {
				n.shortStep(t, s%4)
			}
			n.calm(t)
		}
	}
}

// shortStep is a moment of one end, or that the last packet to it comes, and stays.
func (n *line) shortStep(t testing.TB, do int) {
	t.Helper()
	i := do % 2
	if do < 2 {
		n.tick(t, i)
	} else if k := len(n.way[i]); k > 0 {
		n.take(t, i, k-1, true)
	}
}

// P13.5: a line that loses all but one of so many packets brings all in the end, in order, more than can wait at once.
func TestLossyLine(t *testing.T) {
	r := source(134)
	for every := 1; every <= 7; every++ {
		n := newLine(t, 4, 2)
		for moment := 0; len(n.ends[0].brought) < 60 || len(n.ends[1].brought) < 60; moment++ {
			if moment > 20000 {
				t.Fatalf("one of %d: %d and %d", every, len(n.ends[0].brought), len(n.ends[1].brought))
			}
			for i := range n.ends {
				if len(n.ends[i].sent) < 60 {
					n.send(t, i)
				}
				n.tick(t, i)
				for len(n.way[i]) > 0 {
					if r.Intn(every) == 0 {
						n.take(t, i, 0, false)
					} else {
						n.lose(i, 0)
					}
				}
			}
		}
		n.calm(t)
	}
}

// Where ends begin anew, of each two epochs what is brought is in order; what waits when the peer begins anew is sent to the new one.
func TestEpochsByChance(t *testing.T) {
	r := source(133)
	for range 200 {
		n := newLine(t, 1, 1)
		for range 2 + r.Intn(4) {
			for range r.Intn(120) {
				n.step(t, r.Intn(12*97))
			}
			i := r.Intn(2)
			fresh, other := &n.ends[i], &n.ends[1-i]
			wait := other.sent[len(other.sent)-other.l.Waiting():]
			n.ends[i] = end{both: begin(t, fresh.s.epoch+1)}
			n.greet(t, i)
			*other = end{both: other.both, sent: wait}
			n.holds(t)
		}
		n.calm(t)
	}
}

// greet lets an end say its Hello, and that and all that is on the way, of older ones, too, come to the other one.
func (n *line) greet(t testing.TB, i int) {
	t.Helper()
	fresh, other := n.ends[i], n.ends[1-i]
	old := n.way[1-i]
	n.way[1-i] = nil
	for _, p := range fresh.tick(t) {
		_, answers := other.take(t, p)
		n.way[i] = append(n.way[i], answers...)
	}
	for _, p := range old { // they are of an epoch that is no more
		if brings, answers := other.take(t, p); len(brings)+len(answers) > 0 {
			t.Fatalf("Take(%v): %q, %v", p, brings, answers)
		}
	}
}

// FuzzLink looks for calls after which a link tells other things than the slow one.
func FuzzLink(f *testing.F) {
	f.Add(int64(1), uint8(1))
	f.Add(int64(2), uint8(200))
	f.Fuzz(func(t *testing.T, seed int64, calls uint8) {
		r := source(seed)
		x := begin(t, 1+r.Intn(3))
		for i := range int(calls) {
			switch r.Intn(4) {
			case 0:
				x.send(t, nth(i))
			case 1:
				x.tick(t)
			default:
				x.take(t, chancePacket(r, x.s))
			}
		}
	})
}

// FuzzLine looks for what may happen on a line so that it does not bring what was sent.
func FuzzLine(f *testing.F) {
	f.Add([]byte{0, 2, 5, 4, 2, 5, 4})
	f.Add([]byte{0, 0, 1, 2, 9, 8, 29, 28, 3, 2, 11, 4, 6})
	f.Fuzz(func(t *testing.T, script []byte) {
		n := newLine(t, 1, 2)
		for _, do := range script[:min(len(script), 400)] { // each step looks at all that was sent
			n.step(t, int(do))
		}
		n.calm(t)
	})
}

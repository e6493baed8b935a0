package frame_test

import (
	"bytes"
	"math/rand"
	"slices"
	"testing"

	"pennant/api"
	"pennant/crc"
	"pennant/frame"
)

const (
	maxFrame = 2048
	maxHeld  = 2100
	maxRun   = 254
)

// source is the same numbers in each run of the tests.
func source(seed int64) *rand.Rand { return rand.New(rand.NewSource(seed)) }

// text is n bytes, of which so many in a hundred are noughts.
func text(r *rand.Rand, n, noughts int) []byte {
	b := make([]byte, n)
	for i := range b {
		if r.Intn(100) >= noughts {
			b[i] = byte(1 + r.Intn(255))
		}
	}
	return b
}

// all is n bytes that are alike.
func all(n int, x byte) []byte { return bytes.Repeat([]byte{x}, n) }

func join(parts ...[]byte) []byte { return slices.Concat(parts...) }

// stuffed is Stuff as the chapter tells it, byte by byte.
func stuffed(b []byte) []byte {
	var out, run []byte
	end := func() {
		out = append(append(out, byte(len(run)+1)), run...)
		run = nil
	}
	for i := 0; i <= len(b); i++ {
		if i == len(b) || b[i] == 0 {
			end()
			continue
		}
		run = append(run, b[i])
		if len(run) == maxRun {
			end()
		}
	}
	return out
}

// put is Put of bytes that may be framed.
func put(t testing.TB, b []byte) []byte {
	t.Helper()
	p, e := frame.Put(b)
	if e != api.OK {
		t.Fatalf("Put of %d bytes: %d", len(b), e)
	}
	return p
}

// refuse fails if Plain tells anything of b.
func refuse(t *testing.T, b []byte, why string) {
	t.Helper()
	if x, e := frame.Plain(b); e != api.ErrForm || len(x) != 0 {
		t.Fatalf("%s: Plain(%x) is %x, %d", why, b, x, e)
	}
}

// undone fails if b is not stuffed as the chapter tells it, or not told again.
func undone(t *testing.T, b []byte) {
	t.Helper()
	s := frame.Stuff(b)
	if !bytes.Equal(s, stuffed(b)) {
		t.Fatalf("Stuff(%x): %x", b, s)
	}
	if bytes.IndexByte(s, 0) >= 0 || len(s) < len(b)+1 || len(s) > len(b)+1+len(b)/maxRun {
		t.Fatalf("Stuff of %d bytes has %d, the first nought at %d", len(b), len(s), bytes.IndexByte(s, 0))
	}
	if x, e := frame.Plain(s); e != api.OK || !bytes.Equal(x, b) {
		t.Fatalf("Plain(Stuff(%x)): %x, %d", b, x, e)
	}
}

// P4.1: the chapter's examples, and what comes just behind them.
func TestKnownStuff(t *testing.T) {
	for _, c := range []struct{ b, want []byte }{
		{nil, []byte{1}},
		{[]byte{}, []byte{1}},
		{[]byte{0}, []byte{1, 1}},
		{[]byte{0, 0}, []byte{1, 1, 1}},
		{[]byte{7}, []byte{2, 7}},
		{[]byte{7, 0}, []byte{2, 7, 1}},
		{[]byte{0, 7}, []byte{1, 2, 7}},
		{[]byte{7, 0, 8}, []byte{2, 7, 2, 8}},
		{all(253, 1), join([]byte{254}, all(253, 1))},
		{all(254, 1), join([]byte{255}, all(254, 1), []byte{1})},
		{all(255, 1), join([]byte{255}, all(254, 1), []byte{2, 1})},
		{all(508, 1), join([]byte{255}, all(254, 1), []byte{255}, all(254, 1), []byte{1})},
		{join(all(253, 1), []byte{0}), join([]byte{254}, all(253, 1), []byte{1})},
		{join(all(254, 1), []byte{0}), join([]byte{255}, all(254, 1), []byte{1, 1})},
		{join(all(254, 1), []byte{0, 9}), join([]byte{255}, all(254, 1), []byte{1, 2, 9})},
	} {
		if s := frame.Stuff(c.b); !bytes.Equal(s, c.want) {
			t.Errorf("Stuff(%x): %x, not %x", c.b, s, c.want)
		}
		if x, e := frame.Plain(c.want); e != api.OK || !bytes.Equal(x, c.b) {
			t.Errorf("Plain(%x): %x, %d", c.want, x, e)
		}
	}
}

// P4.1, P4.4: texts without noughts, of noughts alone, and with one nought at every place about the ends of runs.
func TestStuffAtTheEndsOfRuns(t *testing.T) {
	for n := range 1100 {
		undone(t, all(n, 255))
		undone(t, all(n, 0))
	}
	for _, n := range []int{253, 254, 255, 256, 508, 509, 510, 763} {
		for at := range n {
			b := all(n, 3)
			b[at] = 0
			undone(t, b)
		}
	}
}

// P4.1, P4.4: texts by chance, with few noughts and with many.
func TestStuffByChance(t *testing.T) {
	r := source(1)
	for _, noughts := range []int{0, 1, 20, 90} {
		for range 300 {
			undone(t, text(r, r.Intn(1500), noughts))
		}
	}
	undone(t, text(r, 1<<20+1, 0))
	undone(t, text(r, 1<<20+1, 1))
}

// words are all texts of up to so many bytes, each byte below six.
func words(most int) [][]byte {
	l := [][]byte{{}}
	for i := 0; i < len(l); i++ {
		if len(l[i]) == most {
			break
		}
		for x := range byte(6) {
			l = append(l, join(l[i], []byte{x}))
		}
	}
	return l
}

// P4.1: of all short texts, Plain takes those that are a Stuff, and no other one.
func TestPlainOfAllShortTexts(t *testing.T) {
	plain := map[string][]byte{}
	for _, b := range words(5) {
		s := string(stuffed(b))
		if other, is := plain[s]; is {
			t.Fatalf("%x and %x have one Stuff", b, other)
		}
		plain[s] = b
	}
	for _, s := range words(6) {
		want, is := plain[string(s)]
		if !is {
			refuse(t, s, "no Stuff")
			continue
		}
		if x, e := frame.Plain(s); e != api.OK || !bytes.Equal(x, want) {
			t.Fatalf("Plain(%x): %x, %d", s, x, e)
		}
	}
}

// P4.1: wrong inputs of Plain: nothing, noughts, runs that are cut, and a run of 254 with none behind it.
func TestPlainOfNoStuff(t *testing.T) {
	refuse(t, nil, "nil")
	refuse(t, []byte{}, "empty")
	refuse(t, []byte{0}, "a nought")
	refuse(t, []byte{1, 0}, "a nought behind")
	refuse(t, []byte{3, 1}, "a run that is cut")
	refuse(t, []byte{3, 0, 1}, "a nought first in a run")
	refuse(t, []byte{3, 1, 0}, "a nought last in a run")
	refuse(t, []byte{2, 7, 2, 8, 0}, "a nought behind runs")
	for x := 2; x < 256; x++ {
		refuse(t, []byte{byte(x)}, "one byte")
	}
	refuse(t, join([]byte{255}, all(253, 1)), "a long run that is cut")
	refuse(t, join([]byte{255}, all(254, 1)), "a long run at the end")
	refuse(t, join([]byte{255}, all(254, 1), []byte{255}, all(254, 1)), "two long runs at the end")
	refuse(t, join([]byte{1, 255}, all(254, 1)), "a long run at the end, behind another")
	for at := range 254 {
		s := frame.Stuff(all(254, 1))
		s[at+1] = 0
		refuse(t, s, "a nought in a long run")
	}
	r := source(2)
	for range 200 {
		s := frame.Stuff(text(r, 1+r.Intn(600), 2))
		s[r.Intn(len(s))] = 0
		refuse(t, s, "a byte that became a nought")
	}
}

// P4.1: of texts by chance Plain takes those alone that are the Stuff of what it tells.
func TestPlainByChance(t *testing.T) {
	r := source(3)
	taken := 0
	for range 20000 {
		s := make([]byte, r.Intn(12))
		for i := range s {
			s[i] = byte(1 + r.Intn(4))
		}
		x, e := frame.Plain(s)
		if e == api.OK && bytes.Equal(stuffed(x), s) {
			taken++
			continue
		}
		if e != api.ErrForm || len(x) != 0 {
			t.Fatalf("Plain(%x): %x, %d", s, x, e)
		}
	}
	if taken < 1000 {
		t.Errorf("only %d were taken", taken)
	}
}

// P4.2: Put is Stuff of the Seal, and a nought, up to 2048 bytes; behind that it is none.
func TestPut(t *testing.T) {
	r := source(4)
	for _, n := range []int{0, 1, 2, 250, 251, 252, 253, 254, 1000, 2047, 2048} {
		for _, noughts := range []int{0, 10, 100} {
			b := text(r, n, noughts)
			if p := put(t, b); !bytes.Equal(p, join(stuffed(crc.Seal(b)), []byte{0})) {
				t.Fatalf("Put(%x): %x", b, p)
			}
		}
	}
	if p := put(t, nil); !bytes.Equal(p, []byte{4, 0xB7, 0x04, 0xCE, 0}) {
		t.Errorf("Put of nothing: %x", p)
	}
	for _, n := range []int{2049, 2050, 2100, 1 << 16} {
		for _, x := range []byte{0, 1} {
			if p, e := frame.Put(all(n, x)); e != api.ErrArg || len(p) != 0 {
				t.Errorf("Put of %d bytes: %d bytes, %d", n, len(p), e)
			}
		}
	}
}

// feed fails if what is told of b, or how many are spoilt, or how many are held then, is another.
func feed(t *testing.T, r *frame.Reader, b []byte, want [][]byte, spoilt, held int) {
	t.Helper()
	told, bad := r.Feed(b)
	if !slices.EqualFunc(told, want, bytes.Equal) || bad != spoilt || r.Held() != held {
		t.Fatalf("%d frames were told, not %d, %d were spoilt, not %d, %d bytes are held, not %d; told: %x", len(told), len(want), bad, spoilt, r.Held(), held, told)
	}
}

// P4.3: a frame is told with its nought, not ahead of it; what has no end yet is held.
func TestFeedByteByByte(t *testing.T) {
	r := frame.New()
	if r.Held() != 0 {
		t.Fatalf("%d bytes are held at the beginning", r.Held())
	}
	feed(t, r, nil, nil, 0, 0)
	feed(t, r, []byte{}, nil, 0, 0)
	for _, b := range [][]byte{[]byte("one"), nil, {0}, all(300, 0), all(300, 5)} {
		p := put(t, b)
		last := len(p) - 1
		for i := range last {
			feed(t, r, p[i:i+1], nil, 0, i+1)
		}
		feed(t, r, nil, nil, 0, last)
		feed(t, r, p[last:], [][]byte{b}, 0, 0)
	}
}

// P4.3: of a nought, with nothing held, nothing comes.
func TestFeedOfNoughts(t *testing.T) {
	r := frame.New()
	feed(t, r, []byte{0}, nil, 0, 0)
	feed(t, r, all(5000, 0), nil, 0, 0)
	feed(t, r, join(all(3, 0), put(t, []byte("a")), all(3, 0), put(t, nil), all(2, 0), []byte{1, 2}), [][]byte{[]byte("a"), nil}, 0, 2)
	feed(t, r, all(3, 0), nil, 1, 0)
}

// P4.3: what is no Put counts as spoilt, one for each end, and nothing of it is told or held.
func TestFeedOfSpoiltFrames(t *testing.T) {
	good := put(t, []byte("good"))
	plain := stuffed([]byte("no sum behind it"))
	other := crc.Seal([]byte("another sum"))
	other[len(other)-1] ^= 1
	for _, bad := range [][]byte{
		{1}, {1, 1}, {2}, {9, 9}, {3, 0xB7, 0x04}, {4, 0xB7, 0x04, 0xCF}, {5, 0xB7, 0x04, 0xCE}, {4, 0xB7, 0x04, 0xCE, 2, 1},
		plain, stuffed(other), good[1 : len(good)-1], good[:len(good)-2],
		join([]byte{255}, all(254, 1)), join(good[:len(good)-1], good[:len(good)-1]),
	} {
		r := frame.New()
		feed(t, r, bad, nil, 0, len(bad))
		feed(t, r, []byte{0}, nil, 1, 0)
		feed(t, r, join(good, bad, []byte{0}, bad, []byte{0, 0}, good, good), all3("good"), 2, 0)
	}
}

func all3(s string) [][]byte { return [][]byte{[]byte(s), []byte(s), []byte(s)} }

// P4.3, P2: every bit of a frame that is turned spoils it, and it alone (a nought that comes or goes may part or join frames).
func TestFeedOfTurnedBits(t *testing.T) {
	next := put(t, []byte("next"))
	for _, b := range [][]byte{nil, []byte("text"), {1, 0, 0, 2}, all(260, 9)} {
		p := put(t, b)
		for bit := range 8 * (len(p) - 1) {
			x := bytes.Clone(p)
			x[bit/8] ^= 1 << (bit % 8)
			told, bad := frame.New().Feed(join(x, next))
			if bad < 1 || bad > 2 || len(told) != 1 || !bytes.Equal(told[0], []byte("next")) {
				t.Fatalf("bit %d of %x: %x, %d", bit, p, told, bad)
			}
		}
	}
}

// P4.3: the longest frame is told; a longer one, though stuffed and sealed well, has no Put.
func TestFeedOfTheLongest(t *testing.T) {
	r := frame.New()
	for _, x := range []byte{0, 1, 255} {
		b := all(maxFrame, x)
		feed(t, r, put(t, b), [][]byte{b}, 0, 0)
		for n := maxFrame + 1; n <= maxFrame+40; n++ {
			s := stuffed(crc.Seal(all(n, x)))
			feed(t, r, s, nil, 0, min(len(s), maxHeld))
			feed(t, r, []byte{0}, nil, 1, 0)
		}
		feed(t, r, put(t, b), [][]byte{b}, 0, 0)
	}
}

// P4.3: at most 2100 bytes are held; what is lost spoils its frame, once, and not the next one.
func TestFeedOfTooMuch(t *testing.T) {
	next := put(t, []byte("next"))
	for _, n := range []int{2099, 2100, 2101, 4200, 10000} {
		r := frame.New()
		feed(t, r, all(n, 1), nil, 0, min(n, maxHeld))
		feed(t, r, []byte{0}, nil, 1, 0)
		feed(t, r, next, [][]byte{[]byte("next")}, 0, 0)
		feed(t, r, join(all(n, 9), []byte{0}, next, all(n, 9), []byte{0, 0}, next), [][]byte{[]byte("next"), []byte("next")}, 2, 0)
	}
	r := frame.New()
	for i := range 2200 {
		feed(t, r, []byte{1}, nil, 0, min(i+1, maxHeld))
	}
	feed(t, r, next[:len(next)-1], nil, 0, maxHeld)
	feed(t, r, []byte{0, 0}, nil, 1, 0)
	// A frame that begins where no byte is held any more is lost with what was ahead of it.
	feed(t, r, join(all(maxHeld, 1), next), nil, 1, 0)
}

// cut is b in parts by chance, some of them empty.
func cut(r *rand.Rand, b []byte) [][]byte {
	var parts [][]byte
	for len(b) > 0 {
		n := min(len(b), r.Intn(1+r.Intn(400)))
		parts = append(parts, b[:n])
		b = b[n:]
	}
	return parts
}

// P4.4: frames one behind the other are told as they were, in whichever parts they come, also behind anything and a nought.
func TestFramesInParts(t *testing.T) {
	r := source(5)
	for round := range 300 {
		reader := frame.New()
		if round%2 == 1 {
			reader.Feed(text(r, r.Intn(6000), r.Intn(3)))
			reader.Feed([]byte{0})
		}
		var stream []byte
		var want, told [][]byte
		for range r.Intn(12) {
			b := text(r, r.Intn(1+r.Intn(maxFrame+1)), r.Intn(101))
			want = append(want, b)
			stream = append(stream, put(t, b)...)
		}
		for _, part := range cut(r, stream) {
			l, bad := reader.Feed(part)
			if bad != 0 {
				t.Fatalf("%d frames are spoilt", bad)
			}
			told = append(told, l...)
		}
		if !slices.EqualFunc(told, want, bytes.Equal) || reader.Held() != 0 {
			t.Fatalf("%d frames were told, not %d, and %d bytes are held", len(told), len(want), reader.Held())
		}
	}
}

// P4.4: every cut of a stream in two gives the same frames.
func TestFramesInTwoParts(t *testing.T) {
	want := [][]byte{[]byte("ab"), nil, {0, 0}, all(300, 7), all(3, 0)}
	var stream []byte
	for _, b := range want {
		stream = append(stream, put(t, b)...)
	}
	for at := range len(stream) + 1 {
		r := frame.New()
		told, bad := r.Feed(stream[:at])
		more, worse := r.Feed(stream[at:])
		if !slices.EqualFunc(append(told, more...), want, bytes.Equal) || bad+worse != 0 || r.Held() != 0 {
			t.Fatalf("cut at %d: %x and %x, %d and %d", at, told, more, bad, worse)
		}
	}
}

// slow is a reader as the chapter tells it.
type slow struct {
	held   []byte
	spoilt bool
}

// feed is Feed; what is a Put is told by putting it again.
func (s *slow) feed(b []byte) (told [][]byte, bad int) {
	for _, x := range b {
		if x != 0 && len(s.held) < maxHeld {
			s.held = append(s.held, x)
			continue
		}
		if x != 0 {
			s.spoilt = true
			continue
		}
		sealed, e := frame.Plain(s.held)
		text, is := crc.Open(sealed)
		p, f := frame.Put(text)
		if !s.spoilt && e == api.OK && is && f == api.OK && bytes.Equal(p, append(s.held, 0)) {
			told = append(told, text)
		} else if s.spoilt || len(s.held) > 0 {
			bad++
		}
		*s = slow{}
	}
	return told, bad
}

// alike fails if a reader and a slow one part over a stream.
func alike(t *testing.T, parts ...[]byte) {
	t.Helper()
	r, s := frame.New(), &slow{}
	for _, part := range parts {
		told, bad := r.Feed(part)
		want, worse := s.feed(part)
		if !slices.EqualFunc(told, want, bytes.Equal) || bad != worse || r.Held() != len(s.held) {
			t.Fatalf("%x: %x and %d, not %x and %d; held: %d, not %d", part, told, bad, want, worse, r.Held(), len(s.held))
		}
	}
}

// P4.3: streams of frames, noughts and other things, by chance and in parts, are told as the chapter tells it.
func TestStreamsByChance(t *testing.T) {
	r := source(6)
	for range 300 {
		var stream []byte
		for range r.Intn(30) {
			switch r.Intn(5) {
			case 0:
				stream = append(stream, text(r, r.Intn(20), 10)...)
			case 1:
				stream = append(stream, 0)
			case 2:
				stream = append(stream, text(r, 2000+r.Intn(200), 0)...)
			default:
				stream = append(stream, put(t, text(r, r.Intn(300), r.Intn(60)))...)
			}
		}
		alike(t, cut(r, stream)...)
	}
}

// R3: what is handed in stays as it is, also behind its end, and no answer shares anything.
func TestNothingIsShared(t *testing.T) {
	r := source(7)
	for _, n := range []int{0, 1, 5, 254, 600} {
		room := text(r, n+16, 5)
		was := bytes.Clone(room)
		b := room[:n]
		s := frame.Stuff(b)
		p := put(t, b)
		kept := bytes.Clone(s)
		x, _ := frame.Plain(s)
		if !bytes.Equal(room, was) || !bytes.Equal(s, kept) {
			t.Fatalf("%d bytes: an argument was changed", n)
		}
		for _, answer := range [][]byte{s, p, append(x, 1, 2, 3)} {
			for i := range answer {
				answer[i] ^= 255
			}
			if !bytes.Equal(room, was) {
				t.Fatalf("%d bytes: an answer is shared", n)
			}
		}
		if !bytes.Equal(frame.Stuff(b), kept) {
			t.Fatalf("%d bytes: Stuff is another one the second time", n)
		}
	}
}

// R3: a reader keeps none of what it was fed, nor of what it told.
func TestReaderSharesNothing(t *testing.T) {
	a, b := []byte("the first one"), all(20, 0)
	stream := join(put(t, a), put(t, b), put(t, a))
	was := bytes.Clone(stream)
	r := frame.New()
	r.Feed(stream[:5])
	told, bad := r.Feed(stream[5 : len(stream)-4])
	if !bytes.Equal(stream, was) || bad != 0 || len(told) != 2 {
		t.Fatalf("%x, %d", told, bad)
	}
	copy(stream, all(len(stream), 255))
	for i := range told[0] {
		told[0][i] ^= 255
	}
	told[0] = append(told[0], all(40, 8)...)
	if !bytes.Equal(told[1], b) {
		t.Fatalf("the second frame became %x with the first", told[1])
	}
	told[1] = append(told[1], all(40, 8)...)
	feed(t, r, was[len(was)-4:], [][]byte{a}, 0, 0)
}

// R4: readers hang on nothing but what each was fed.
func TestReadersApart(t *testing.T) {
	p := put(t, []byte("text"))
	r, s := frame.New(), frame.New()
	feed(t, r, p[:4], nil, 0, 4)
	feed(t, s, all(2500, 1), nil, 0, maxHeld)
	feed(t, frame.New(), p, [][]byte{[]byte("text")}, 0, 0)
	feed(t, r, p[4:], [][]byte{[]byte("text")}, 0, 0)
	feed(t, s, p, nil, 1, 0)
}

// FuzzPlain: what is plain has that Stuff, and all else is refused.
func FuzzPlain(f *testing.F) {
	f.Add([]byte{})
	f.Add([]byte{1})
	f.Add([]byte{2, 7, 2, 8})
	f.Add(frame.Stuff(all(254, 1)))
	f.Fuzz(func(t *testing.T, b []byte) {
		x, e := frame.Plain(b)
		if e == api.OK && !bytes.Equal(stuffed(x), b) || e != api.OK && (e != api.ErrForm || len(x) > 0) {
			t.Errorf("Plain(%x): %x, %d", b, x, e)
		}
		undone(t, b)
	})
}

// FuzzFeed: a stream in two parts is told as the chapter tells it.
func FuzzFeed(f *testing.F) {
	f.Add([]byte{}, []byte{0})
	f.Add(put(f, []byte("text")), put(f, nil))
	f.Add([]byte{9, 9, 0, 4, 0xB7}, []byte{0x04, 0xCE, 0, 0, 5})
	f.Fuzz(func(t *testing.T, a, b []byte) { alike(t, a, b) })
}

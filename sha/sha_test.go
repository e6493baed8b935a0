package sha_test

import (
	"bytes"
	"crypto/sha256"
	"encoding"
	"encoding/binary"
	"encoding/hex"
	"math/big"
	"strings"
	"testing"

	"pennant/api"
	"pennant/sha"
)

// firstWords is H of nothing, as the chapter gives it.
const firstWords = "6a09e667bb67ae853c6ef372a54ff53a510e527f9b05688c1f83d9ab5be0cd19"

// edges are lengths around which the ending goes from one block to the next, also behind more blocks.
var edges = []int{0, 1, 3, 54, 55, 56, 57, 62, 63, 64, 65, 118, 119, 120, 121, 126, 127, 128, 129, 183, 184, 191, 192, 247, 248, 255, 256, 1000}

// text is n bytes that are all but alike.
func text(n int) []byte {
	b := make([]byte, n)
	x := uint32(n) + 1
	for i := range b {
		x = x*1664525 + 1013904223
		b[i] = byte(x >> 24)
	}
	return b
}

func ofParts(parts ...[]byte) *sha.Hash {
	h := sha.New()
	for _, p := range parts {
		h.Write(p)
	}
	return h
}

func mustLoad(t *testing.T, b []byte) *sha.Hash {
	t.Helper()
	h, e := sha.Load(b)
	if e != api.OK || h == nil {
		t.Fatalf("Load of %d bytes: %v, error %d", len(b), h, e)
	}
	return h
}

// saved puts a Save together by hand.
func saved(words []byte, length uint64, part []byte) []byte {
	b := bytes.Clone(words)
	b = binary.BigEndian.AppendUint64(b, length)
	return append(b, part...)
}

// libraryWords are the words that the library's hash has behind the whole blocks of b.
func libraryWords(t *testing.T, b []byte) []byte {
	t.Helper()
	h := sha256.New()
	h.Write(b)
	state, err := h.(encoding.BinaryMarshaler).MarshalBinary()
	if err != nil {
		t.Fatal(err)
	}
	return state[4:36]
}

// librarySum is what the library's hash makes of words, a length and a part.
func librarySum(t *testing.T, words []byte, length uint64, part []byte) [32]byte {
	t.Helper()
	state := append([]byte("sha\x03"), words...)
	state = append(state, part...)
	state = append(state, make([]byte, 64-len(part))...)
	state = binary.BigEndian.AppendUint64(state, length)
	h := sha256.New()
	if err := h.(encoding.BinaryUnmarshaler).UnmarshalBinary(state); err != nil {
		t.Fatal(err)
	}
	return [32]byte(h.Sum(nil))
}

// P1.1: sums that are known.
func TestSumOfKnownTexts(t *testing.T) {
	tests := []struct{ text, want string }{
		{"", "e3b0c44298fc1c149afbf4c8996fb92427ae41e4649b934ca495991b7852b855"},
		{"abc", "ba7816bf8f01cfea414140de5dae2223b00361a396177a9cb410ff61f20015ad"},
		{"abcdbcdecdefdefgefghfghighijhijkijkljklmklmnlmnomnopnopq", "248d6a61d20638b8e5c026930c3e6039a33ce45964ff2167f6ecedd419db06c1"},
		{"abcdefghbcdefghicdefghijdefghijkefghijklfghijklmghijklmnhijklmnoijklmnopjklmnopqklmnopqrlmnopqrsmnopqrstnopqrstu", "cf5b16a778af8380036ce59e7b0492370b249b11e8f07a51afac45037afee9d1"},
		{strings.Repeat("a", 1000000), "cdc76e5c9914fb9281a1c7e284d73e67f1809a48a497200e046d39ccc7112cd0"},
	}
	for _, c := range tests {
		got := sha.Sum([]byte(c.text))
		if hex.EncodeToString(got[:]) != c.want {
			t.Errorf("Sum of %d bytes %.10q: %x, want %s", len(c.text), c.text, got, c.want)
		}
	}
}

// P1.1: every length through four blocks, and so each edge of the ending.
func TestSumOfEveryLength(t *testing.T) {
	for n := range 4*64 + 10 {
		for _, b := range [][]byte{text(n), make([]byte, n), bytes.Repeat([]byte{255}, n), bytes.Repeat([]byte{128}, n)} {
			if got, want := sha.Sum(b), sha256.Sum256(b); got != want {
				t.Errorf("Sum of %d bytes: %x, want %x", n, got, want)
			}
		}
	}
	b := text(api.MaxBytes)
	if sha.Sum(b) != sha256.Sum256(b) {
		t.Error("Sum of 2^20 bytes")
	}
}

// P1.1: the ending, laid by hand, makes whole blocks whose words are the sum.
func TestSumIsOfTheTextAndItsEnding(t *testing.T) {
	for _, n := range edges {
		b := text(n)
		whole := append(bytes.Clone(b), 128)
		for len(whole)%64 != 56 {
			whole = append(whole, 0)
		}
		whole = binary.BigEndian.AppendUint64(whole, 8*uint64(n))
		want := sha.Sum(b)
		if got := ofParts(whole).Save()[:32]; !bytes.Equal(got, want[:]) {
			t.Errorf("%d bytes: %x, want %x", n, got, want)
		}
	}
}

// P1.1: a block of one set bit, wherever that stands, is taken as the library takes it.
func TestSumOfOneBit(t *testing.T) {
	for bit := range 8 * 64 {
		b := make([]byte, 64)
		b[bit/8] = 1 << (bit % 8)
		if sha.Sum(b) != sha256.Sum256(b) {
			t.Errorf("bit %d", bit)
		}
	}
}

// P1.1: H of nothing is of the square roots of the first primes.
func TestFirstWordsAreOfRoots(t *testing.T) {
	var want []byte
	for _, p := range []int64{2, 3, 5, 7, 11, 13, 17, 19} {
		n := new(big.Int).Lsh(big.NewInt(p), 64)
		want = binary.BigEndian.AppendUint32(want, uint32(n.Sqrt(n).Uint64()))
	}
	if got := sha.New().Save()[:32]; !bytes.Equal(got, want) || hex.EncodeToString(got) != firstWords {
		t.Errorf("%x, want %x", got, want)
	}
}

// R2: nil and empty are the same.
func TestNilAndEmpty(t *testing.T) {
	if sha.Sum(nil) != sha.Sum([]byte{}) {
		t.Error("Sum")
	}
	h := ofParts([]byte("abc"), nil, []byte{})
	if h.Sum() != sha.Sum([]byte("abc")) || h.Len() != 3 {
		t.Error("Write")
	}
	for _, b := range [][]byte{nil, {}} {
		if _, e := sha.Load(b); e != api.ErrForm {
			t.Error("Load:", e)
		}
	}
}

// P2: a text of which one bit was turned, or that was cut or made longer, has another sum.
func TestSpoiltTextsAreTold(t *testing.T) {
	for _, n := range []int{1, 55, 56, 64, 100} {
		b := text(n)
		want := sha.Sum(b)
		for bit := range 8 * n {
			spoilt := bytes.Clone(b)
			spoilt[bit/8] ^= 1 << (bit % 8)
			if sha.Sum(spoilt) == want {
				t.Errorf("%d bytes, bit %d", n, bit)
			}
		}
		if sha.Sum(b[:n-1]) == want || sha.Sum(append(bytes.Clone(b), 0)) == want {
			t.Errorf("%d bytes: another length", n)
		}
	}
}

// P1.2: of nothing.
func TestNewIsOfNothing(t *testing.T) {
	h := sha.New()
	if h.Len() != 0 || h.Sum() != sha.Sum(nil) {
		t.Error(h.Len(), h.Sum())
	}
}

// P1.2: behind each Write, Sum and Len are of all so far, however often they are asked, and it goes on.
func TestWriteStandsBehind(t *testing.T) {
	for _, step := range []int{1, 7, 55, 56, 63, 64, 65, 128, 200} {
		h := sha.New()
		b := text(5 * step)
		for n := 0; n <= len(b); n += step {
			for range 2 {
				if h.Sum() != sha256.Sum256(b[:n]) || h.Len() != n {
					t.Fatalf("step %d: %d bytes of %d", step, h.Len(), n)
				}
			}
			if n < len(b) {
				h.Write(b[n : n+step])
			}
		}
	}
}

// P1.2 and R4: hashes have nothing in common.
func TestHashesAreApart(t *testing.T) {
	x, y := sha.New(), sha.New()
	a, b := text(150), text(151)
	for i := range a {
		x.Write(a[i : i+1])
		y.Write(b[i : i+1])
		if x.Sum() != sha256.Sum256(a[:i+1]) || y.Sum() != sha256.Sum256(b[:i+1]) {
			t.Fatal(i)
		}
	}
	if sha.New().Sum() != sha.Sum(nil) {
		t.Error("a new one is not of nothing")
	}
}

// R3: what is handed in stays as it is, and is not kept.
func TestArgumentsAreNotKept(t *testing.T) {
	for _, n := range edges {
		b := text(n)
		h := sha.New()
		h.Write(b)
		sha.Sum(b)
		save := h.Save()
		x := mustLoad(t, save)
		if !bytes.Equal(b, text(n)) || !bytes.Equal(save, h.Save()) {
			t.Fatalf("%d bytes: changed", n)
		}
		clear(b)
		clear(save)
		want := sha256.Sum256(text(n))
		if h.Sum() != want || x.Sum() != want || !bytes.Equal(h.Save(), x.Save()) {
			t.Errorf("%d bytes: kept", n)
		}
	}
}

// P1.3: Save is the words, the length and the part, and asking for it changes nothing.
func TestSaveAsBytes(t *testing.T) {
	nothing := firstWords + strings.Repeat("00", 8)
	if got := hex.EncodeToString(sha.New().Save()); got != nothing {
		t.Error("of nothing:", got)
	}
	abc := firstWords + "0000000000000003" + "616263"
	if got := hex.EncodeToString(ofParts([]byte("abc")).Save()); got != abc {
		t.Error("of abc:", got)
	}
	for n := range 4*64 + 10 {
		b := text(n)
		h := ofParts(b)
		want := saved(libraryWords(t, b), uint64(n), b[n/64*64:])
		if got := h.Save(); !bytes.Equal(got, want) {
			t.Errorf("of %d bytes: %x, want %x", n, got, want)
		}
		if h.Sum() != sha256.Sum256(b) || h.Len() != n {
			t.Errorf("of %d bytes: changed", n)
		}
	}
}

// P1.3: the length is told by all its bytes, the highest first.
func TestSaveOfLongLength(t *testing.T) {
	b := text(0x010203)
	if got := ofParts(b).Save()[32:40]; !bytes.Equal(got, []byte{0, 0, 0, 0, 0, 1, 2, 3}) {
		t.Error(got)
	}
}

// P1.3: Load of a Save is that hash, and both go on, apart.
func TestLoadOfSave(t *testing.T) {
	for n := range 4*64 + 10 {
		b := text(n)
		h := ofParts(b)
		x := mustLoad(t, h.Save())
		if x.Len() != n || x.Sum() != sha256.Sum256(b) || !bytes.Equal(x.Save(), h.Save()) {
			t.Fatalf("of %d bytes", n)
		}
		x.Write([]byte("abc"))
		if h.Len() != n || h.Sum() != sha256.Sum256(b) {
			t.Fatalf("of %d bytes: not apart", n)
		}
		if x.Len() != n+3 || x.Sum() != sha256.Sum256(append(b, "abc"...)) {
			t.Fatalf("of %d bytes: it does not go on", n)
		}
	}
}

// P1.3: as many bytes as Len leaves by 64 must stand behind, no fewer and no more.
func TestLoadAsksForThePart(t *testing.T) {
	words := text(32)
	for _, length := range []uint64{0, 1, 2, 40, 63, 64, 65, 127, 128, 1000, 1<<32 + 5, 1<<40 - 1, 1 << 40} {
		for part := range 140 {
			b := saved(words, length, text(part))
			h, e := sha.Load(b)
			if uint64(part) != length%64 {
				if e != api.ErrForm || h != nil {
					t.Errorf("Len %d, %d bytes behind: %v, error %d", length, part, h, e)
				}
				continue
			}
			if e != api.OK || uint64(h.Len()) != length || !bytes.Equal(h.Save(), b) {
				t.Errorf("Len %d, %d bytes behind: error %d", length, part, e)
			}
		}
	}
}

// P1.3: 39 bytes are too few, 40 are a Save of whole blocks, 41 of one byte more.
func TestLoadOfShortBytes(t *testing.T) {
	one := ofParts([]byte("a")).Save()
	for n := range 41 {
		if h, e := sha.Load(one[:n]); e != api.ErrForm || h != nil {
			t.Errorf("%d bytes of 41: %v, error %d", n, h, e)
		}
	}
	for n := range 40 {
		for _, b := range [][]byte{make([]byte, n), bytes.Repeat([]byte{255}, n)} {
			if h, e := sha.Load(b); e != api.ErrForm || h != nil {
				t.Errorf("%d bytes: %v, error %d", n, h, e)
			}
		}
	}
	if h := mustLoad(t, make([]byte, 40)); h.Len() != 0 {
		t.Error(h.Len())
	}
	if h := mustLoad(t, one); h.Len() != 1 {
		t.Error(h.Len())
	}
	if h, e := sha.Load(make([]byte, 41)); e != api.ErrForm || h != nil {
		t.Errorf("41 noughts: %v, error %d", h, e)
	}
}

// P1.3: a Len above 2^40 is none, though as many bytes stand behind as it leaves.
func TestLoadOfTooGreatLength(t *testing.T) {
	words := text(32)
	for _, length := range []uint64{1<<40 + 1, 1<<40 + 63, 1<<40 + 64, 1<<41 + 3, 1 << 56, 1<<63 - 1, 1 << 63, 1<<63 + 5, 1<<64 - 64, 1<<64 - 1} {
		h, e := sha.Load(saved(words, length, text(int(length%64))))
		if e != api.ErrForm || h != nil {
			t.Errorf("Len %d: %v, error %d", length, h, e)
		}
	}
}

// P1.3 and P1.1: the greatest lengths are summed up by all their 64 bits.
func TestSumOfLoadedLength(t *testing.T) {
	words := text(32)
	for _, length := range []uint64{1<<29 - 1, 1 << 29, 1<<32 + 55, 1<<32 + 56, 1<<40 - 9, 1<<40 - 8, 1<<40 - 1, 1 << 40} {
		part := text(int(length % 64))
		h := mustLoad(t, saved(words, length, part))
		if got, want := h.Sum(), librarySum(t, words, length, part); got != want {
			t.Errorf("Len %d: %x, want %x", length, got, want)
		}
		h.Write([]byte("a"))
		if uint64(h.Len()) != length+1 {
			t.Errorf("Len %d: %d with one more", length, h.Len())
		}
	}
}

// P1.4: two parts, wherever the cut is, with a Save and a Load between, or none.
func TestTwoParts(t *testing.T) {
	for _, n := range edges {
		b := text(n)
		want := sha256.Sum256(b)
		for cut := range n + 1 {
			whole := ofParts(b[:cut], b[cut:])
			taken := mustLoad(t, ofParts(b[:cut]).Save())
			taken.Write(b[cut:])
			for _, h := range []*sha.Hash{whole, taken} {
				if h.Sum() != want || h.Len() != n || *h != *ofParts(b) {
					t.Fatalf("%d bytes, cut at %d", n, cut)
				}
			}
		}
	}
}

// P1.4: many parts of many lengths, nothing among them, put down and taken up between by some of them.
func TestManyParts(t *testing.T) {
	b := text(1500)
	for widest := range 200 {
		choices := text(1000 + widest)
		h := sha.New()
		at := 0
		for _, c := range choices {
			n := min(int(c)%(widest+1), len(b)-at)
			h.Write(b[at : at+n])
			at += n
			if c&32 != 0 {
				h = mustLoad(t, h.Save())
			}
			if c&64 != 0 && h.Sum() != sha256.Sum256(b[:at]) {
				t.Fatalf("parts of at most %d bytes: at %d", widest, at)
			}
		}
		if h.Sum() != sha256.Sum256(b[:at]) || h.Len() != at {
			t.Errorf("parts of at most %d bytes", widest)
		}
	}
}

// P1: whatever bytes Load is given, it ends, and what it tells is the Save of what it loads.
func FuzzLoad(f *testing.F) {
	f.Add([]byte(nil))
	f.Add(make([]byte, 39))
	f.Add(make([]byte, 40))
	f.Add(sha.New().Save())
	f.Add(ofParts(text(100)).Save())
	f.Add(saved(text(32), 1<<40, nil))
	f.Add(saved(text(32), 1<<64-1, text(63)))
	f.Fuzz(func(t *testing.T, b []byte) {
		h, e := sha.Load(b)
		if e == api.OK {
			if !bytes.Equal(h.Save(), b) || h.Len() > 1<<40 {
				t.Errorf("%x", b)
			}
			h.Write(b)
			h.Sum()
			return
		}
		if e != api.ErrForm || h != nil {
			t.Errorf("%x: %v, error %d", b, h, e)
		}
	})
}

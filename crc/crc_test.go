package crc_test

import (
	"bytes"
	"testing"

	"pennant/crc"
)

const (
	firstSum = 0xB704CE
	allSums  = 1 << 24
)

// text is n bytes that are all but alike, of their own for each seed.
func text(n int, seed uint32) []byte {
	b := make([]byte, n)
	x := uint32(n)*7919 + seed + 1
	for i := range b {
		x = x*1664525 + 1013904223
		b[i] = byte(x >> 24)
	}
	return b
}

// addBits is Add as the chapter tells it, bit by bit.
func addBits(sum uint32, b []byte) uint32 {
	s := uint64(sum) % allSums
	for _, x := range b {
		s ^= uint64(x) << 16
		for range 8 {
			s *= 2
			if s>>24&1 == 1 {
				s ^= 0x1864CFB
			}
		}
	}
	return uint32(s)
}

// sealed is b with the bytes of a sum behind it.
func sealed(b []byte, sum uint32) []byte {
	return append(bytes.Clone(b), byte(sum>>16), byte(sum>>8), byte(sum))
}

// refuse fails if b is opened, or if anything is told of it.
func refuse(t *testing.T, b []byte, why string) {
	t.Helper()
	if x, is := crc.Open(b); is || len(x) != 0 {
		t.Fatalf("%s: Open(%x) is %x, %v", why, b, x, is)
	}
}

// P2.1: sums that are known, of nothing too.
func TestKnownSums(t *testing.T) {
	if s := crc.Sum([]byte("123456789")); s != 0x21CF02 {
		t.Errorf("Sum of 123456789: %06x", s)
	}
	for _, b := range [][]byte{nil, {}} {
		if s := crc.Sum(b); s != firstSum {
			t.Errorf("Sum of nothing: %06x", s)
		}
	}
}

// P2.1: Add is the chapter's, at every byte, and goes on from the lowest 24 bits alone.
func TestAddBitByBit(t *testing.T) {
	sums := []uint32{0, 1, 0x800000, 0xFFFFFF, firstSum, 0x1000000, 0xFF000000, 0xFFB704CE, 0xFFFFFFFF, 0x01864CFB}
	for bit := range 32 {
		sums = append(sums, 1<<bit)
	}
	for _, sum := range sums {
		for x := range 256 {
			b := []byte{byte(x), byte(x * 7)}
			for n := range 3 {
				if s, want := crc.Add(sum, b[:n]), addBits(sum, b[:n]); s != want {
					t.Fatalf("Add(%x, %x): %06x, not %06x", sum, b[:n], s, want)
				}
			}
		}
		for n := range 70 {
			b := text(n, sum)
			if s, want := crc.Add(sum, b), addBits(sum, b); s != want || s >= allSums {
				t.Fatalf("Add(%x, %d bytes): %06x, not %06x", sum, n, s, want)
			}
		}
		if crc.Add(sum, nil) != sum%allSums || crc.Add(sum, []byte{}) != sum%allSums {
			t.Fatalf("Add(%x, nothing): %x", sum, crc.Add(sum, nil))
		}
	}
}

// P2.1: Sum is Add of B704CE, of long texts too.
func TestSumIsAdd(t *testing.T) {
	for _, n := range []int{0, 1, 2, 3, 4, 255, 256, 1000, 1 << 16, 1<<20 + 1} {
		b := text(n, 5)
		if s := crc.Sum(b); s != crc.Add(firstSum, b) || s != addBits(firstSum, b) {
			t.Errorf("Sum of %d bytes: %06x", n, s)
		}
	}
}

// P2.2: Seal is the bytes and their sum, the highest byte first; Open takes it off.
func TestSealAndOpen(t *testing.T) {
	known := append([]byte("123456789"), 0x21, 0xCF, 0x02)
	if b := crc.Seal([]byte("123456789")); !bytes.Equal(b, known) {
		t.Errorf("Seal: %x", b)
	}
	for n := range 300 {
		b := text(n, 1)
		s := crc.Seal(b)
		if !bytes.Equal(s, sealed(b, addBits(firstSum, b))) {
			t.Fatalf("Seal of %d bytes: %x", n, s)
		}
		if x, is := crc.Open(s); !is || !bytes.Equal(x, b) {
			t.Fatalf("Open of a Seal of %d bytes: %x, %v", n, x, is)
		}
	}
}

// P2.2, R2: the Seal of nothing, nil or empty, is three bytes, and is opened.
func TestSealOfNothing(t *testing.T) {
	for _, b := range [][]byte{nil, {}} {
		s := crc.Seal(b)
		if !bytes.Equal(s, []byte{0xB7, 0x04, 0xCE}) {
			t.Errorf("Seal of nothing: %x", s)
		}
		if x, is := crc.Open(s); !is || len(x) != 0 {
			t.Errorf("Open of a Seal of nothing: %x, %v", x, is)
		}
	}
}

// P2.2: what is too short to have a sum is no Seal.
func TestOpenTooShort(t *testing.T) {
	refuse(t, nil, "nil")
	refuse(t, []byte{}, "empty")
	for x := range 1 << 16 {
		refuse(t, []byte{byte(x >> 8)}, "one byte")
		refuse(t, []byte{byte(x >> 8), byte(x)}, "two bytes")
	}
}

// P2.2: of all sums behind a text only its own is taken.
func TestOpenEverySum(t *testing.T) {
	for _, b := range [][]byte{{}, []byte("a")} {
		own := addBits(firstSum, b)
		s := sealed(b, 0)
		for sum := range uint32(allSums) {
			s[len(b)], s[len(b)+1], s[len(b)+2] = byte(sum>>16), byte(sum>>8), byte(sum)
			if _, is := crc.Open(s); is != (sum == own) {
				t.Fatalf("Open of %q with %06x: %v", b, sum, is)
			}
		}
	}
}

// P2.2: a Seal that was cut, lengthened, or whose sum is turned round, is none.
func TestOpenNoSeal(t *testing.T) {
	for _, n := range []int{1, 2, 3, 4, 10, 100} {
		b := text(n, 2)
		s := crc.Seal(b)
		refuse(t, s[:len(s)-1], "cut at the end")
		refuse(t, s[1:], "cut at the beginning")
		refuse(t, append(bytes.Clone(s), 1), "lengthened")
		sum := addBits(firstSum, b)
		refuse(t, append(bytes.Clone(b), byte(sum), byte(sum>>8), byte(sum>>16)), "lowest first")
		refuse(t, sealed(b, addBits(0, b)), "begun at 0")
	}
}

// P2.3: wherever a text is cut, its sum is Add of the beginning's and the rest.
func TestSumInTwoParts(t *testing.T) {
	for n := range 100 {
		b := text(n, 3)
		want := crc.Sum(b)
		for cut := range n + 1 {
			if s := crc.Add(crc.Sum(b[:cut]), b[cut:]); s != want {
				t.Fatalf("%d bytes, cut at %d: %06x, not %06x", n, cut, s, want)
			}
			if s := crc.Add(crc.Add(9, b[:cut]), b[cut:]); s != crc.Add(9, b) {
				t.Fatalf("%d bytes from 9 on, cut at %d: %06x", n, cut, s)
			}
		}
	}
}

// P2.3: the sum of a Seal is 0, and of a text with other three bytes it is not.
func TestSumOfSeal(t *testing.T) {
	for n := range 100 {
		s := crc.Seal(text(n, 4))
		if sum := crc.Sum(s); sum != 0 {
			t.Fatalf("sum of a Seal of %d bytes: %06x", n, sum)
		}
		s[n+2] ^= 1
		if crc.Sum(s) == 0 {
			t.Fatalf("sum of a spoilt Seal of %d bytes is 0", n)
		}
	}
}

// P2.3: all that three bytes behind one text can be have sums of their own.
func TestUnlikeWithinThreeBytes(t *testing.T) {
	seen := make([]bool, allSums)
	b := []byte("text...")
	for x := range allSums {
		b[4], b[5], b[6] = byte(x>>16), byte(x>>8), byte(x)
		s := crc.Sum(b)
		if seen[s] {
			t.Fatalf("%x has the sum of another text: %06x", b, s)
		}
		seen[s] = true
	}
}

// turned is b with the 24 bits from one on, counted from the highest of the first byte, XORed.
func turned(b []byte, from int, bits uint32) []byte {
	b = bytes.Clone(b)
	for i := range 24 {
		if bits>>(23-i)&1 == 1 {
			b[(from+i)/8] ^= 0x80 >> ((from + i) % 8)
		}
	}
	return b
}

// P2.3, P2: wherever up to 24 bits one behind the other are turned, the sum is another, and a Seal is none any more.
func TestUnlikeWithin24Bits(t *testing.T) {
	for _, n := range []int{3, 4, 7, 40} {
		b := text(n, 6)
		s := crc.Seal(b)
		for from := range len(s)*8 - 23 {
			for k := range uint32(400) {
				bits := k*2654435761>>8 | 1
				if k < 24 {
					bits = 1 << k
				}
				if k >= 24 && k < 48 {
					bits = 1<<(k-23) - 1
				}
				refuse(t, turned(s, from, bits), "turned")
				if from+24 <= n*8 && crc.Sum(turned(b, from, bits)) == crc.Sum(b) {
					t.Fatalf("%x and bits %06x from %d on: one sum", b, bits, from)
				}
			}
		}
	}
}

// P2.3: the sum of three texts' XOR is the XOR of their sums.
func TestSumOfThree(t *testing.T) {
	for n := range 100 {
		a, b, c := text(n, 7), text(n, 8), text(n, 9)
		x := make([]byte, n)
		for i := range x {
			x[i] = a[i] ^ b[i] ^ c[i]
		}
		if s := crc.Sum(x); s != crc.Sum(a)^crc.Sum(b)^crc.Sum(c) {
			t.Fatalf("three texts of %d bytes: %06x", n, s)
		}
	}
}

// R3: what is handed in stays as it is, also behind its end, and what is told is the caller's own.
func TestNothingIsShared(t *testing.T) {
	for _, n := range []int{0, 1, 5, 64} {
		room := text(n+16, 10)
		was := bytes.Clone(room)
		b := room[:n]
		s := crc.Seal(b)
		crc.Sum(b)
		crc.Add(1, b)
		kept := bytes.Clone(s)
		x, is := crc.Open(s)
		if !bytes.Equal(room, was) || !bytes.Equal(s, kept) {
			t.Fatalf("%d bytes: an argument was changed", n)
		}
		for i := range s {
			s[i] ^= 255
		}
		if !bytes.Equal(room, was) || !is || !bytes.Equal(x, b) {
			t.Fatalf("%d bytes: an answer is shared", n)
		}
		x = append(x, 1, 2, 3, 4)
		for i := range x {
			x[i] ^= 255
		}
		for i := range s {
			if s[i] != kept[i]^255 {
				t.Fatalf("%d bytes: what Open told is shared with its argument", n)
			}
		}
	}
}

// R4: a call hangs on no call ahead of it.
func TestNothingIsKept(t *testing.T) {
	b := text(20, 11)
	want := crc.Sum(b)
	crc.Add(want, b)
	crc.Seal(b)
	crc.Open(b)
	if crc.Sum(b) != want || crc.Sum(nil) != firstSum {
		t.Error("Sum is another one the second time")
	}
}

// FuzzOpen: what is opened is the Seal of what is told, and nothing else is refused.
func FuzzOpen(f *testing.F) {
	f.Add([]byte{})
	f.Add([]byte{0xB7, 0x04, 0xCE})
	f.Add([]byte("123456789\x21\xCF\x02"))
	f.Fuzz(func(t *testing.T, b []byte) {
		x, is := crc.Open(b)
		whole := len(b) >= 3 && addBits(firstSum, b) == 0
		if is != whole || is && !bytes.Equal(crc.Seal(x), b) || !is && len(x) > 0 {
			t.Errorf("Open(%x): %x, %v", b, x, is)
		}
		if y, is := crc.Open(crc.Seal(b)); !is || !bytes.Equal(y, b) {
			t.Errorf("Open(Seal(%x)): %x, %v", b, y, is)
		}
	})
}

package wal

import "bytes"

const (
	maxNumber     = 1 << 30
	maxGeneration = 1 << 20
	numberSize    = 4
	threeSize     = 3 * numberSize
)

// head tells which bank counts, and how many bytes of it; the one of the greatest number does.
type head struct {
	number, generation, length int
}

// follow is the head behind h.
func (h head) follow(generation, length int) head {
	return head{number: h.number + 1, generation: generation, length: length}
}

// inBounds tells whether the number and the generation may be; what the length may be hangs on the bank.
func (h head) inBounds() bool {
	return h.number >= 1 && h.number <= maxNumber && h.generation >= 1 && h.generation <= maxGeneration
}

// sector is where it stands; as the places take turns, the head that counts is never written over.
func (h head) sector() int { return h.number % headSectors }

// code is its numbers, and the same again, by which one that was written by halves is known.
func (h head) code() []byte {
	var three []byte
	for _, n := range [...]int{h.number, h.generation, h.length} {
		three = appendNumber(three, n)
	}
	return bytes.Repeat(three, 2)
}

// findHead is the head that counts; if none does, it is of noughts alone.
func (l *Log) findHead() head {
	var found head
	for k := range headSectors {
		if h, stands := l.readHead(k); stands && h.number > found.number {
			found = h
		}
	}
	return found
}

// readHead is the head of the k-th sector, and whether it stands so.
func (l *Log) readHead(k int) (head, bool) {
	b := l.readSector(k)
	h := head{number: numberAt(b, 0), generation: numberAt(b, numberSize), length: numberAt(b, 2*numberSize)}
	again := bytes.Equal(b[:threeSize], b[threeSize:2*threeSize])
	return h, again && h.inBounds() && h.length <= l.size && h.sector() == k
}

// readSector is asked only with the power on, and for sectors that there are: no error can come.
func (l *Log) readSector(k int) []byte {
	b, _ := l.disk.Read(k)
	return b
}

// appendNumber puts a number behind bytes, the lowest byte first; numberAt is the one that begins at a place.
func appendNumber(b []byte, n int) []byte {
	return append(b, byte(n), byte(n>>8), byte(n>>16), byte(n>>24))
}

func numberAt(b []byte, at int) int {
	return int(b[at]) | int(b[at+1])<<8 | int(b[at+2])<<16 | int(b[at+3])<<24
}

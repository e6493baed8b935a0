package sha

// number is that of at most eight bytes, the highest first.
func number(b []byte) uint64 {
	n := uint64(0)
	for _, x := range b {
		n = n<<8 | uint64(x)
	}
	return n
}

// appendNumber puts the eight bytes of a number behind, the highest first.
func appendNumber(b []byte, n uint64) []byte {
	for i := range lenSize {
		b = append(b, byte(n>>(8*(lenSize-1-i))))
	}
	return b
}

// wordBytes are the bytes of the words, of each the highest first.
func wordBytes(words [8]uint32) [sumSize]byte {
	var out [sumSize]byte
	for i := range out {
		out[i] = byte(words[i/4] >> (8 * (3 - i%4)))
	}
	return out
}

package field

const (
	wordBytes = 8

	// highBits has the coefficient of x^7 of each byte of a word.
	highBits = 0x8080808080808080

	// overflow is what is left of x^8: x^4 + x^3 + x^2 + 1.
	overflow = 0x1d
)

// mulWord multiplies each of the eight bytes of a word by c.
func mulWord(word uint64, c byte) uint64 {
	var product uint64
	for range 8 {
		if c&1 == 1 {
			product ^= word
		}
		word = doubleWord(word)
		c >>= 1
	}
	return product
}

// doubleWord multiplies each of the eight bytes of a word by x.
func doubleWord(word uint64) uint64 {
	high := word & highBits
	// The high bits are taken out ahead of the shift, so that none runs into
	// the next byte; nor does the product, as overflow fits in a byte.
	return (word^high)<<1 ^ (high>>7)*overflow
}

// load reads the first eight bytes of part as a word. Bytes that are not there
// count as 0, so the end of a list needs no way of its own; in which order the
// bytes stand does not matter, as long as store keeps the same.
func load(part []byte) uint64 {
	var word uint64
	for i := range min(wordBytes, len(part)) {
		word |= uint64(part[i]) << (8 * i)
	}
	return word
}

// store writes a word to the first eight bytes of part, or as many as it has.
func store(part []byte, word uint64) {
	for i := range min(wordBytes, len(part)) {
		part[i] = byte(word >> (8 * i))
	}
}

package bits

// wordBits is how many bits lie in one word.
const wordBits = 64

// emptyWords makes room for n bits that are all 0. It is just as long as it
// must be, so that equal rows have equal words.
func emptyWords(n int) []uint64 {
	return make([]uint64, parts(n, wordBits))
}

// parts is how many parts of that size n bits fill or begin. It divides first:
// n may come from a caller, and n + size - 1 could wrap round.
func parts(n, size int) int {
	if n%size > 0 {
		return n/size + 1
	}
	return n / size
}

// low is the mask of a word's first size bits.
func low(size int) uint64 {
	return uint64(1)<<size - 1
}

// eachPiece cuts the bits from from on up to to where words end, and hands on
// each piece: in which word it lies, at which bit of it, and how long it is.
func eachPiece(from, to int, visit func(word, shift, size int)) {
cutting:
	for word := from / wordBits; ; word++ {
		border := (word + 1) * wordBits
		switch {
		case from >= to:
			break cutting
		case border < to:
			visit(word, from%wordBits, border-from)
			from = border
		default:
			visit(word, from%wordBits, to-from)
			break cutting
		}
	}
}

// onesOf counts side by side in ever wider fields of the word, as package bits
// imports nothing that would count for it.
func onesOf(word uint64) int {
	word -= (word >> 1) & 0x5555555555555555
	word = (word & 0x3333333333333333) + ((word >> 2) & 0x3333333333333333)
	word = (word + (word >> 4)) & 0x0f0f0f0f0f0f0f0f
	return int((word * 0x0101010101010101) >> 56)
}

// sameWords tells whether both lists have the same words.
func sameWords[W comparable](a, b []W) bool {
	if len(a) != len(b) {
		return false
	}
	for i, word := range a {
		if word != b[i] {
			return false
		}
	}
	return true
}

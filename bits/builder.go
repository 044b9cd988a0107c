package bits

import "topiary/api"

// Builder makes a row, bits behind bits. A zero one has none so far.
type Builder struct {
	n     int
	words []uint64
}

// New is a builder that has no bits so far.
func New() *Builder {
	return &Builder{}
}

// Add puts one bit behind, and tells how many there are; 0 of a nil builder.
func (w *Builder) Add(bit bool) int {
	if w == nil {
		return 0
	}
	var n uint64
	if bit {
		n = 1
	}
	w.put(n, 1)
	return w.n
}

// Put puts width bits of n behind, the least one first. ErrArg, if there is no
// builder, no such width, or n does not fit.
func (w *Builder) Put(n uint64, width int) api.Errno {
	if w == nil || width < 0 || width > wordBits || n > low(width) {
		return api.ErrArg
	}
	w.put(n, width)
	return api.OK
}

// put is Put, of what fits.
func (w *Builder) put(n uint64, width int) {
	end := w.n + width
	if len(w.words) < parts(end, wordBits) {
		w.words = append(w.words, 0) // one is enough: no number is longer than a word
	}
	eachPiece(w.n, end, func(word, shift, size int) {
		w.words[word] |= (n & low(size)) << shift
		n >>= size
	})
	w.n = end
}

// Bits is the row of all bits so far. It has a copy of the words, as the
// builder may go on writing into its own.
func (w *Builder) Bits() Bits {
	if w == nil {
		return Bits{}
	}
	words := emptyWords(w.n)
	copy(words, w.words)
	return Bits{n: w.n, words: words}
}

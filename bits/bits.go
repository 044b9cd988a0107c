// Package bits is layer 1: rows of bits, packed into words, and a builder that
// makes them.
package bits

import "topiary/api"

// Bits is a row of bits. Nobody writes into its words once it is made, so that
// rows may be handed on as values; bits of the last word behind the row are 0,
// so that words can be counted and compared whole.
type Bits struct {
	n     int
	words []uint64
}

// Make is the row of these bits.
func Make(l []bool) Bits {
	words := emptyWords(len(l))
	for i, bit := range l {
		if bit {
			words[i/wordBits] |= uint64(1) << (i % wordBits)
		}
	}
	return Bits{n: len(l), words: words}
}

// Read is the row of n bits whose Bytes s is; ErrForm, if there is none.
func Read(n int, s string) (Bits, api.Errno) {
	if n < 0 || len(s) != parts(n, 8) {
		return Bits{}, api.ErrForm
	}
	if n%8 > 0 && s[len(s)-1]>>(n%8) != 0 {
		return Bits{}, api.ErrForm
	}
	words := emptyWords(n)
	for i := range len(s) {
		at := i * 8
		words[at/wordBits] |= uint64(s[i]) << (at % wordBits)
	}
	return Bits{n: n, words: words}, api.OK
}

// Len is how many bits there are.
func (b Bits) Len() int {
	return b.n
}

// Get is bit i; ErrRange, if there is none.
func (b Bits) Get(i int) (bool, api.Errno) {
	if i < 0 || i >= b.n {
		return false, api.ErrRange
	}
	return b.words[i/wordBits]>>(i%wordBits)&1 == 1, api.OK
}

// One is 1, if there is a bit i and it is 1; else 0.
func (b Bits) One(i int) int {
	if bit, _ := b.Get(i); bit {
		return 1
	}
	return 0
}

// Ones is how many of the bits from from on up to to (not with it) are 1.
func (b Bits) Ones(from, to int) int {
	from = min(max(from, 0), b.n)
	to = min(max(to, from), b.n)
	count := 0
	eachPiece(from, to, func(word, shift, size int) {
		count += onesOf(b.words[word] >> shift & low(size))
	})
	return count
}

// Number is that of the width bits from at on, the first one the least.
func (b Bits) Number(at, width int) (uint64, api.Errno) {
	if width < 0 || width > wordBits {
		return 0, api.ErrArg
	}
	if at < 0 || at > b.n || width > b.n-at {
		return 0, api.ErrRange
	}
	var n uint64
	got := 0
	eachPiece(at, at+width, func(word, shift, size int) {
		n |= (b.words[word] >> shift & low(size)) << got
		got += size
	})
	return n, api.OK
}

// List is all bits, in order.
func (b Bits) List() []bool {
	l := make([]bool, 0, b.n)
	eachPiece(0, b.n, func(word, shift, size int) {
		for i := range size {
			l = append(l, b.words[word]>>(shift+i)&1 == 1)
		}
	})
	return l
}

// Bytes is the row as bytes, eight bits in each, the first one the least.
func (b Bits) Bytes() string {
	s := make([]byte, parts(b.n, 8))
	for i := range s {
		at := i * 8
		s[i] = byte(b.words[at/wordBits] >> (at % wordBits))
	}
	return string(s)
}

// Same tells whether both rows are as long, and have the same bits.
func (b Bits) Same(c Bits) bool {
	return b.n == c.n && sameWords(b.words, c.words)
}

package bits_test

import (
	"math"
	"slices"
	"testing"

	"topiary/api"
	"topiary/bits"
)

// put is one number of a width.
type put struct {
	n     uint64
	width int
}

// mixedPuts are count numbers of all widths from 0 to 64, the same in each run.
func mixedPuts(seed uint32, count int) []put {
	next := mixed(seed)
	number := func(width int) uint64 {
		var n uint64
		for range width {
			n <<= 1
			if next(0) {
				n++
			}
		}
		return n
	}
	out := make([]put, count)
	for i := range out {
		width := int(number(7)) % 65
		out[i] = put{number(width), width}
	}
	return out
}

// modelPut puts bits behind a list one by one.
func modelPut(l []bool, p put) []bool {
	for i := range p.width {
		l = append(l, p.n>>i&1 == 1)
	}
	return l
}

func TestP1_2PutAtAllPlaces(t *testing.T) {
	for ahead := range 130 {
		for width := range 65 {
			all := uint64(math.MaxUint64)
			if width < 64 {
				all = uint64(1)<<width - 1
			}
			for _, n := range []uint64{0, all, all / 3, all - all/2} {
				start := make([]bool, ahead)
				w := bits.New()
				for range ahead {
					w.Add(false)
				}
				if e := w.Put(n, width); e != api.OK {
					t.Fatalf("Put(%x, %d): %d, want 0", n, width, int(e))
				}
				want := append(modelPut(start, put{n, width}), true)
				if got := w.Add(true); got != len(want) {
					t.Fatalf("Add behind Put(%x, %d) at %d: %d, want %d", n, width, ahead, got, len(want))
				}
				if got := w.Bits().List(); !slices.Equal(got, want) {
					t.Fatalf("Put(%x, %d) at %d: %v, want %v", n, width, ahead, got, want)
				}
			}
		}
	}
}

// A number that does not fit, or a width that is none, leaves the builder as it was.
func TestP1_2PutOfWrongArguments(t *testing.T) {
	wrong := []put{{0, -1}, {0, 65}, {1, 65}, {0, math.MinInt}, {0, math.MaxInt}, {math.MaxUint64, -1}, {math.MaxUint64, 66}}
	for width := range 64 {
		least := uint64(1) << width
		wrong = append(wrong, put{least, width}, put{least + 1, width}, put{math.MaxUint64, width}, put{1 << 63, width})
	}
	for _, ahead := range []int{0, 1, 7, 8, 63, 64, 65} {
		w := bits.New()
		l := samples(ahead)[7]
		for _, bit := range l {
			w.Add(bit)
		}
		for _, p := range wrong {
			if e := w.Put(p.n, p.width); e != api.ErrArg {
				t.Errorf("Put(%x, %d): %d, want 1", p.n, p.width, int(e))
			}
		}
		if got := w.Bits().List(); !slices.Equal(got, l) {
			t.Errorf("behind wrong Puts: %v, want %v", got, l)
		}
		if got := w.Add(true); got != ahead+1 {
			t.Errorf("Add behind wrong Puts: %d, want %d", got, ahead+1)
		}
	}
}

func TestP1_2WidestNumbers(t *testing.T) {
	for width := range 64 {
		w := bits.New()
		if e := w.Put(uint64(1)<<width-1, width); e != api.OK {
			t.Errorf("the greatest number of width %d: %d, want 0", width, int(e))
		}
	}
	w := bits.New()
	if e := w.Put(math.MaxUint64, 64); e != api.OK {
		t.Errorf("Put(2^64 - 1, 64): %d, want 0", int(e))
	}
	if n, e := w.Bits().Number(0, 64); n != math.MaxUint64 || e != api.OK {
		t.Errorf("Number(0, 64): %x, %d, want 2^64 - 1, 0", n, int(e))
	}
}

func TestP1_4Add(t *testing.T) {
	for _, n := range lengths {
		for _, l := range samples(n) {
			w := bits.New()
			if w.Bits().Len() != 0 {
				t.Errorf("New has bits")
			}
			for i, bit := range l {
				if got := w.Add(bit); got != i+1 {
					t.Errorf("Add: %d, want %d", got, i+1)
				}
			}
			if b := w.Bits(); !b.Same(bits.Make(l)) || !slices.Equal(b.List(), l) || b.Bytes() != modelBytes(l) {
				t.Errorf("Bits: %v, want %v", b.List(), l)
			}
		}
	}
}

// What Bits told stays, while the builder goes on in the same word.
func TestP1_4BuilderGoesOn(t *testing.T) {
	w := bits.New()
	var told []bits.Bits
	var want [][]bool
	var l []bool
	for i, p := range mixedPuts(3, 60) {
		told, want = append(told, w.Bits()), append(want, slices.Clone(l))
		if e := w.Put(p.n, p.width); e != api.OK {
			t.Fatalf("Put(%x, %d): %d, want 0", p.n, p.width, int(e))
		}
		l = modelPut(l, p)
		told, want = append(told, w.Bits()), append(want, slices.Clone(l))
		l = append(l, i%2 == 0)
		if got := w.Add(i%2 == 0); got != len(l) {
			t.Errorf("Add: %d, want %d", got, len(l))
		}
	}
	for i, b := range told {
		if b.Len() != len(want[i]) || !slices.Equal(b.List(), want[i]) || !b.Same(bits.Make(want[i])) {
			t.Errorf("the row told as number %d changed", i)
		}
	}
	if b := w.Bits(); !b.Same(w.Bits()) || !slices.Equal(b.List(), l) {
		t.Errorf("Bits at the end: %v, want %v", b.List(), l)
	}
}

func TestP1_4BuildersAreApart(t *testing.T) {
	v, w := bits.New(), bits.New()
	v.Add(true)
	if w.Add(false) != 1 || v.Bits().One(0) != 1 || w.Bits().One(0) != 0 {
		t.Errorf("two builders share bits")
	}
}

func TestP1_5WhatWasPutIsRead(t *testing.T) {
	for seed := range uint32(20) {
		puts := mixedPuts(seed, 100)
		w := bits.New()
		for _, p := range puts {
			if e := w.Put(p.n, p.width); e != api.OK {
				t.Fatalf("Put(%x, %d): %d, want 0", p.n, p.width, int(e))
			}
		}
		built := w.Bits()
		read, e := bits.Read(built.Len(), built.Bytes())
		if e != api.OK || !read.Same(built) || !built.Same(read) {
			t.Fatalf("seed %d: Read of Bytes: %d", seed, int(e))
		}
		at := 0
		for _, p := range puts {
			for _, b := range []bits.Bits{built, read} {
				if n, e := b.Number(at, p.width); n != p.n || e != api.OK {
					t.Fatalf("seed %d: Number(%d, %d): %x, %d, want %x, 0", seed, at, p.width, n, int(e), p.n)
				}
			}
			at += p.width
		}
		if at != built.Len() {
			t.Errorf("seed %d: Len %d, want %d", seed, built.Len(), at)
		}
	}
}

func TestZeroBuilder(t *testing.T) {
	var w bits.Builder
	if w.Bits().Len() != 0 {
		t.Errorf("a zero builder has bits")
	}
	if got := w.Add(true); got != 1 {
		t.Errorf("Add: %d, want 1", got)
	}
	var v bits.Builder
	if e := v.Put(5, 3); e != api.OK {
		t.Errorf("Put(5, 3): %d, want 0", int(e))
	}
	if got := v.Bits().List(); !slices.Equal(got, []bool{true, false, true}) {
		t.Errorf("List %v, want 1 0 1", got)
	}
}

func TestNilBuilder(t *testing.T) {
	var w *bits.Builder
	if got := w.Add(true) + w.Add(false); got != 0 {
		t.Errorf("Add of a nil builder: %d, want 0", got)
	}
	for _, p := range []put{{0, 0}, {1, 1}, {5, 3}, {2, 1}, {0, 65}, {0, -1}} {
		if e := w.Put(p.n, p.width); e != api.ErrArg {
			t.Errorf("Put(%d, %d) of a nil builder: %d, want 1", p.n, p.width, int(e))
		}
	}
	if b := w.Bits(); b.Len() != 0 || !b.Same(bits.Bits{}) {
		t.Errorf("a nil builder has bits")
	}
}

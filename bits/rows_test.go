package bits_test

import (
	"fmt"
	"math"
	"slices"
	"strings"
	"testing"

	"topiary/api"
	"topiary/bits"
)

// lengths lie at the borders of bytes and of words, and between them.
var lengths = []int{0, 1, 2, 7, 8, 9, 15, 16, 17, 31, 33, 63, 64, 65, 71, 72, 73, 127, 128, 129, 130, 191, 192, 193}

// far are places that no row has, out to the ends of int.
var far = []int{math.MinInt, math.MinInt + 1, -1 << 32, -65, -64, -2, -1, 1 << 20, 1 << 32, math.MaxInt - 64, math.MaxInt - 1, math.MaxInt}

// samples are lists of n bits: none 1, all 1, every other one, every third,
// only the first or the last one, and two that have no pattern.
func samples(n int) [][]bool {
	ways := []func(i int) bool{
		func(i int) bool { return false },
		func(i int) bool { return true },
		func(i int) bool { return i%2 == 1 },
		func(i int) bool { return i%3 == 0 },
		func(i int) bool { return i == 0 },
		func(i int) bool { return i == n-1 },
		mixed(1),
		mixed(uint32(n) + 7),
	}
	out := make([][]bool, 0, len(ways))
	for _, way := range ways {
		l := make([]bool, n)
		for i := range l {
			l[i] = way(i)
		}
		out = append(out, l)
	}
	return out
}

// mixed tells bits that have no pattern, the same ones in each run.
func mixed(seed uint32) func(int) bool {
	return func(int) bool {
		seed = seed*1664525 + 1013904223
		return seed>>31 == 1
	}
}

func eachSample(t *testing.T, check func(t *testing.T, l []bool, b bits.Bits)) {
	t.Helper()
	for _, n := range lengths {
		for k, l := range samples(n) {
			t.Run(fmt.Sprintf("%d bits, sample %d", n, k), func(t *testing.T) {
				check(t, l, bits.Make(l))
			})
		}
	}
}

// modelOnes counts bit by bit what Ones(from, to) must tell.
func modelOnes(l []bool, from, to int) int {
	count := 0
	for i, bit := range l {
		if bit && i >= from && i < to {
			count++
		}
	}
	return count
}

// modelNumber adds up bit by bit what Number(at, width) must tell.
func modelNumber(l []bool, at, width int) (uint64, api.Errno) {
	if width < 0 || width > 64 {
		return 0, api.ErrArg
	}
	if at < 0 || at > len(l) || width > len(l)-at {
		return 0, api.ErrRange
	}
	var n uint64
	for i, bit := range l[at : at+width] {
		if bit {
			n += uint64(1) << i
		}
	}
	return n, api.OK
}

// modelBytes sets bit by bit what Bytes must tell.
func modelBytes(l []bool) string {
	s := make([]byte, (len(l)+7)/8)
	for i, bit := range l {
		if bit {
			s[i/8] += byte(1) << (i % 8)
		}
	}
	return string(s)
}

func TestP1_1MakeLenList(t *testing.T) {
	eachSample(t, func(t *testing.T, l []bool, b bits.Bits) {
		if b.Len() != len(l) {
			t.Errorf("Len %d, want %d", b.Len(), len(l))
		}
		if got := b.List(); !slices.Equal(got, l) {
			t.Errorf("List %v, want %v", got, l)
		}
	})
}

func TestP1_1GetAndOne(t *testing.T) {
	eachSample(t, func(t *testing.T, l []bool, b bits.Bits) {
		for i, want := range l {
			if bit, e := b.Get(i); bit != want || e != api.OK {
				t.Errorf("Get(%d): %v, %d, want %v, 0", i, bit, int(e), want)
			}
			if got := b.One(i); (got == 1) != want || got < 0 || got > 1 {
				t.Errorf("One(%d): %d, want that of %v", i, got, want)
			}
		}
		for _, i := range append([]int{len(l), len(l) + 1, len(l) + 63, len(l) + 64}, far...) {
			if bit, e := b.Get(i); bit || e != api.ErrRange {
				t.Errorf("Get(%d): %v, %d, want false, 13", i, bit, int(e))
			}
			if got := b.One(i); got != 0 {
				t.Errorf("One(%d): %d, want 0", i, got)
			}
		}
	})
}

func TestP1_1Ones(t *testing.T) {
	eachSample(t, func(t *testing.T, l []bool, b bits.Bits) {
		for from := -2; from <= len(l)+2; from++ {
			for to := -2; to <= len(l)+2; to++ {
				if got, want := b.Ones(from, to), modelOnes(l, from, to); got != want {
					t.Fatalf("Ones(%d, %d): %d, want %d", from, to, got, want)
				}
			}
		}
		places := append([]int{0, 1, len(l) / 2, len(l)}, far...)
		for _, from := range places {
			for _, to := range places {
				if got, want := b.Ones(from, to), modelOnes(l, from, to); got != want {
					t.Errorf("Ones(%d, %d): %d, want %d", from, to, got, want)
				}
			}
		}
	})
}

func TestP1_2Number(t *testing.T) {
	eachSample(t, func(t *testing.T, l []bool, b bits.Bits) {
		for at := -1; at <= len(l)+1; at++ {
			for width := -1; width <= 65; width++ {
				n, e := b.Number(at, width)
				if want, f := modelNumber(l, at, width); n != want || e != f {
					t.Fatalf("Number(%d, %d): %x, %d, want %x, %d", at, width, n, int(e), want, int(f))
				}
			}
		}
	})
}

func TestP1_2NumberOfWrongArguments(t *testing.T) {
	eachSample(t, func(t *testing.T, l []bool, b bits.Bits) {
		for _, at := range append([]int{0, len(l), len(l) + 1}, far...) {
			for _, width := range append([]int{-1, 0, 1, 63, 64, 65, 128}, far...) {
				n, e := b.Number(at, width)
				if want, f := modelNumber(l, at, width); n != want || e != f {
					t.Errorf("Number(%d, %d): %x, %d, want %x, %d", at, width, n, int(e), want, int(f))
				}
			}
		}
	})
}

// Of several errors the one that the promise names first is told.
func TestP1_2WidthIsToldFirst(t *testing.T) {
	b := bits.Make([]bool{true})
	for _, width := range []int{-1, 65, math.MinInt, math.MaxInt} {
		for _, at := range []int{-1, 2, math.MinInt, math.MaxInt} {
			if n, e := b.Number(at, width); n != 0 || e != api.ErrArg {
				t.Errorf("Number(%d, %d): %d, %d, want 0, 1", at, width, n, int(e))
			}
		}
	}
}

func TestP1_2NumberOfNoBitsAtTheEnd(t *testing.T) {
	for _, n := range lengths {
		b := bits.Make(make([]bool, n))
		if x, e := b.Number(n, 0); x != 0 || e != api.OK {
			t.Errorf("Number(%d, 0) of %d bits: %d, %d, want 0, 0", n, n, x, int(e))
		}
		if x, e := b.Number(n+1, 0); x != 0 || e != api.ErrRange {
			t.Errorf("Number(%d, 0) of %d bits: %d, %d, want 0, 13", n+1, n, x, int(e))
		}
	}
}

func TestP1_3Bytes(t *testing.T) {
	eachSample(t, func(t *testing.T, l []bool, b bits.Bits) {
		if got, want := b.Bytes(), modelBytes(l); got != want {
			t.Errorf("Bytes %x, want %x", got, want)
		}
	})
}

func TestP1_3ReadOfWrittenBytes(t *testing.T) {
	eachSample(t, func(t *testing.T, l []bool, b bits.Bits) {
		c, e := bits.Read(len(l), modelBytes(l))
		if e != api.OK || !slices.Equal(c.List(), l) || !c.Same(b) || c.Bytes() != b.Bytes() {
			t.Errorf("Read: %d, %v, want 0, %v", int(e), c.List(), l)
		}
	})
}

func wantForm(t *testing.T, n int, s string) {
	t.Helper()
	if b, e := bits.Read(n, s); e != api.ErrForm || b.Len() != 0 || !b.Same(bits.Bits{}) {
		t.Errorf("Read(%d, %x): %d bits, %d, want none, 10", n, s, b.Len(), int(e))
	}
}

func TestP1_3ReadOfOtherLengths(t *testing.T) {
	for _, n := range lengths {
		bytes := (n + 7) / 8
		for size := range bytes + 10 {
			if size != bytes {
				wantForm(t, n, strings.Repeat("\x00", size))
			}
		}
	}
}

func TestP1_3ReadOfBitsBehindTheLast(t *testing.T) {
	for _, n := range lengths {
		bytes := (n + 7) / 8
		for bit := n; bit < bytes*8; bit++ {
			s := make([]byte, bytes)
			s[bit/8] = byte(1) << (bit % 8)
			wantForm(t, n, string(s))
		}
	}
}

func TestP1_3ReadOfFarLengths(t *testing.T) {
	for _, n := range far {
		for _, s := range []string{"", "\x00", "\x01", strings.Repeat("\x00", 8), strings.Repeat("\x00", 64)} {
			wantForm(t, n, s)
		}
	}
	for n := -9; n < 0; n++ {
		wantForm(t, n, "")
		wantForm(t, n, "\x00")
	}
}

func TestP1_3ReadOfAllShortTexts(t *testing.T) {
	for n := range 17 {
		for x := range 1 << 16 {
			s := string([]byte{byte(x), byte(x >> 8)})[:(n+7)/8]
			b, e := bits.Read(n, s)
			if want := x&(1<<(8*len(s))-1) < 1<<n; want != (e == api.OK) || !want && e != api.ErrForm {
				t.Fatalf("Read(%d, %x): %d", n, s, int(e))
			}
			if e == api.OK && (b.Len() != n || b.Bytes() != s) {
				t.Fatalf("Read(%d, %x): %d bits, Bytes %x", n, s, b.Len(), b.Bytes())
			}
		}
	}
}

func TestP1_4Same(t *testing.T) {
	eachSample(t, func(t *testing.T, l []bool, b bits.Bits) {
		if !b.Same(b) || !b.Same(bits.Make(l)) {
			t.Errorf("not the same as itself")
		}
		for i := range l {
			other := slices.Clone(l)
			other[i] = !other[i]
			if c := bits.Make(other); b.Same(c) || c.Same(b) {
				t.Errorf("the same, though bit %d differs", i)
			}
		}
		for _, more := range []int{1, 7, 8, 63, 64, 65} {
			c := bits.Make(append(slices.Clone(l), make([]bool, more)...))
			if b.Same(c) || c.Same(b) {
				t.Errorf("the same, though one has %d zeros more", more)
			}
		}
	})
}

func TestZeroRow(t *testing.T) {
	for _, b := range []bits.Bits{{}, bits.Make(nil), bits.Make([]bool{}), new(bits.Builder).Bits()} {
		if b.Len() != 0 || len(b.List()) != 0 || b.Bytes() != "" || b.Ones(-3, 70) != 0 || b.One(0) != 0 {
			t.Errorf("a row without bits tells some")
		}
		if _, e := b.Get(0); e != api.ErrRange {
			t.Errorf("Get(0): %d, want 13", int(e))
		}
		if n, e := b.Number(0, 0); n != 0 || e != api.OK {
			t.Errorf("Number(0, 0): %d, %d, want 0, 0", n, int(e))
		}
		if n, e := b.Number(0, 1); n != 0 || e != api.ErrRange {
			t.Errorf("Number(0, 1): %d, %d, want 0, 13", n, int(e))
		}
		if n, e := b.Number(0, 65); n != 0 || e != api.ErrArg {
			t.Errorf("Number(0, 65): %d, %d, want 0, 1", n, int(e))
		}
		if !b.Same(bits.Bits{}) || !(bits.Bits{}).Same(b) || b.Same(bits.Make([]bool{false})) {
			t.Errorf("Same of a row without bits")
		}
	}
}

// R3: what is handed in is neither changed nor kept; what is told is new.
func TestMemoryOfRows(t *testing.T) {
	for _, n := range lengths {
		l := samples(n)[6]
		given := slices.Clone(l)
		b := bits.Make(given)
		if !slices.Equal(given, l) {
			t.Errorf("%d bits: Make changed what it was given", n)
		}
		for i := range given {
			given[i] = !given[i]
		}
		told := b.List()
		for i := range told {
			told[i] = !told[i]
		}
		if !slices.Equal(b.List(), l) || b.Bytes() != modelBytes(l) {
			t.Errorf("%d bits: the row changed with a list", n)
		}
	}
}

func TestExamples(t *testing.T) {
	b := bits.Make([]bool{true, false, true, true})
	if b.Bytes() != "\x0d" || b.Ones(1, 4) != 2 {
		t.Errorf("Make(1 0 1 1): %x; %d, want 0d; 2", b.Bytes(), b.Ones(1, 4))
	}
	w := bits.New()
	if e, f := w.Put(5, 3), w.Put(1, 1); e != api.OK || f != api.OK {
		t.Errorf("Put(5, 3), Put(1, 1): %d, %d, want 0, 0", int(e), int(f))
	}
	c := w.Bits()
	if got := c.List(); !slices.Equal(got, []bool{true, false, true, true}) {
		t.Errorf("List %v, want 1 0 1 1", got)
	}
	if n, e := c.Number(1, 3); n != 6 || e != api.OK {
		t.Errorf("Number(1, 3): %d, %d, want 6, 0", n, int(e))
	}
}

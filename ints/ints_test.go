package ints_test

import (
	"fmt"
	"math"
	"slices"
	"strings"
	"testing"

	"topiary/api"
	"topiary/bits"
	"topiary/ints"
)

// lengths are such that rows of most widths end at, ahead of and behind borders
// of bytes and words.
var lengths = []int{0, 1, 2, 3, 7, 8, 9, 31, 32, 33, 63, 64, 65, 130}

// far are numbers and places that lie at the ends of int, and in between.
var far = []int{math.MinInt, math.MinInt + 1, -1 << 32, -64, -2, -1, 1 << 25, 1 << 32, 1 << 62, math.MaxInt - 1, math.MaxInt}

// greatest is that of a width.
func greatest(width int) int {
	return 1<<width - 1
}

// mixed tells numbers of a width that have no pattern, the same ones in each run.
func mixed(seed uint64, width int) func(int) int {
	return func(int) int {
		seed = seed*6364136223846793005 + 1442695040888963407
		return int(seed>>1) >> (63 - width)
	}
}

// samples are lists of n numbers of a width: none above 0, all the greatest, one
// of both in turn, rising ones, and some without a pattern.
func samples(n, width int) [][]int {
	ways := []func(i int) int{
		func(i int) int { return 0 },
		func(i int) int { return greatest(width) },
		func(i int) int { return i % 2 * greatest(width) },
		func(i int) int { return i & greatest(width) },
		func(i int) int { return greatest(width) ^ greatest(width)/3 },
		mixed(1, width),
		mixed(uint64(n*100+width), width),
	}
	out := make([][]int, 0, len(ways))
	for _, way := range ways {
		l := make([]int, n)
		for i := range l {
			l[i] = way(i)
		}
		out = append(out, l)
	}
	return out
}

// eachSample goes over all samples of all widths, packed.
func eachSample(t *testing.T, check func(t *testing.T, l []int, width int, x ints.Ints)) {
	t.Helper()
	for width := range 63 {
		t.Run(fmt.Sprintf("width %d", width), func(t *testing.T) {
			for _, n := range lengths {
				for _, l := range samples(n, width) {
					check(t, l, width, pack(t, l, width))
				}
			}
		})
	}
}

// pack is Pack, of what fits.
func pack(t *testing.T, l []int, width int) ints.Ints {
	t.Helper()
	x, e := ints.Pack(l, width)
	if e != api.OK {
		t.Fatalf("Pack(%v, %d): %d, want 0", l, width, int(e))
	}
	return x
}

// modelBytes sets bit by bit what Bytes must tell.
func modelBytes(l []int, width int) string {
	s := make([]byte, (len(l)*width+7)/8)
	for i, n := range l {
		for k := range width {
			if at := i*width + k; n>>k&1 == 1 {
				s[at/8] += byte(1) << (at % 8)
			}
		}
	}
	return string(s)
}

// modelFind goes over the list from its begin for what Find must tell.
func modelFind(l []int, n int) int {
	for i, m := range l {
		if m >= n {
			return i
		}
	}
	return len(l)
}

// wantZero tells a fault, if what stands beside an error is no zero row.
func wantZero(t *testing.T, call string, x ints.Ints) {
	t.Helper()
	if x.Len() != 0 || x.Width() != 0 || x.Bytes() != "" || !x.Same(ints.Ints{}) {
		t.Errorf("%s: a row of %d numbers of width %d beside an error", call, x.Len(), x.Width())
	}
}

func TestP2_1Width(t *testing.T) {
	for width := 1; width <= 63; width++ {
		least, most := 1<<(width-1), int(uint64(1)<<width-1)
		for _, n := range []int{least, most, least + (most-least)/2} {
			if got := ints.Width(n); got != width {
				t.Errorf("Width(%d): %d, want %d", n, got, width)
			}
		}
	}
	for n := 1; n < 5000; n++ {
		w := ints.Width(n)
		if n >= 1<<w || n < 1<<(w-1) {
			t.Errorf("Width(%d): %d", n, w)
		}
	}
}

func TestP2_1WidthBelowOne(t *testing.T) {
	for _, n := range []int{0, -1, -2, -3, -64, -1 << 32, math.MinInt + 1, math.MinInt} {
		if got := ints.Width(n); got != 0 {
			t.Errorf("Width(%d): %d, want 0", n, got)
		}
	}
}

func TestP2_2Rows(t *testing.T) {
	eachSample(t, func(t *testing.T, l []int, width int, x ints.Ints) {
		if x.Len() != len(l) || x.Width() != width {
			t.Errorf("Len %d, Width %d, want %d, %d", x.Len(), x.Width(), len(l), width)
		}
		if got := x.List(); !slices.Equal(got, l) {
			t.Errorf("List %v, want %v", got, l)
		}
		for i, want := range l {
			if n, e := x.Get(i); n != want || e != api.OK {
				t.Errorf("Get(%d): %d, %d, want %d, 0", i, n, int(e), want)
			}
			if got := x.At(i); got != want {
				t.Errorf("At(%d): %d, want %d", i, got, want)
			}
		}
	})
}

func TestP2_2PlacesThatAreNot(t *testing.T) {
	eachSample(t, func(t *testing.T, l []int, width int, x ints.Ints) {
		for _, i := range append([]int{len(l), len(l) + 1, len(l) + 8}, far...) {
			if n, e := x.Get(i); n != 0 || e != api.ErrRange {
				t.Errorf("Get(%d) of %d numbers: %d, %d, want 0, 13", i, len(l), n, int(e))
			}
			if got := x.At(i); got != -1 {
				t.Errorf("At(%d) of %d numbers: %d, want -1", i, len(l), got)
			}
		}
	})
}

func TestP2_2PackOfWrongWidths(t *testing.T) {
	for _, width := range append([]int{63, 64, 65, 126, 128}, far...) {
		for _, l := range [][]int{nil, {}, {0}, {1}, {-1}, {math.MaxInt}} {
			x, e := ints.Pack(l, width)
			if e != api.ErrArg {
				t.Errorf("Pack(%v, %d): %d, want 1", l, width, int(e))
			}
			wantZero(t, "Pack", x)
		}
	}
}

// One number that does not fit is enough, wherever it stands.
func TestP2_2PackOfWrongNumbers(t *testing.T) {
	for width := range 63 {
		above := greatest(width) + 1
		for _, wrong := range []int{above, above + 1, -1, -2, -above, math.MinInt, math.MaxInt} {
			for at := range 5 {
				l := []int{0, greatest(width), 0, greatest(width), 0}
				pack(t, l, width)
				l[at] = wrong
				x, e := ints.Pack(l, width)
				if e != api.ErrArg {
					t.Errorf("Pack(%v, %d): %d, want 1", l, width, int(e))
				}
				wantZero(t, "Pack", x)
			}
		}
	}
}

func TestP2_2Tight(t *testing.T) {
	for width := range 63 {
		for at := range 4 {
			for _, most := range []int{greatest(width), greatest(width)/2 + width&1} {
				l := []int{0, 0, most / 2, 0}
				l[at] = most
				want := ints.Width(most)
				x, e := ints.Tight(l)
				if e != api.OK || x.Width() != want || !slices.Equal(x.List(), l) || !x.Same(pack(t, l, want)) {
					t.Errorf("Tight(%v): %d, %v of width %d, want width %d", l, int(e), x.List(), x.Width(), want)
				}
			}
		}
	}
}

func TestP2_2TightOfNoneAndOfZeros(t *testing.T) {
	for _, l := range [][]int{nil, {}, {0}, make([]int, 100)} {
		x, e := ints.Tight(l)
		if e != api.OK || x.Width() != 0 || x.Len() != len(l) || x.Bytes() != "" || !slices.Equal(x.List(), l) {
			t.Errorf("Tight of %d zeros: %d, %d numbers of width %d", len(l), int(e), x.Len(), x.Width())
		}
	}
}

func TestP2_2TightOfWrongNumbers(t *testing.T) {
	for _, l := range [][]int{{-1}, {-1, 5}, {5, -1}, {0, -1}, {math.MinInt}, {math.MinInt, math.MaxInt}, {1 << 62}, {0, 1 << 62, 1}, {math.MaxInt}, {-1 << 40, -1}} {
		x, e := ints.Tight(l)
		if e != api.ErrArg {
			t.Errorf("Tight(%v): %d, want 1", l, int(e))
		}
		wantZero(t, "Tight", x)
	}
	if x, e := ints.Tight([]int{1<<62 - 1}); e != api.OK || x.Width() != 62 || x.At(0) != 1<<62-1 {
		t.Errorf("Tight(2^62 - 1): %d, width %d", int(e), x.Width())
	}
}

// around are numbers at, below and above each of a list, and far ones.
func around(l []int) []int {
	out := slices.Clone(far)
	for _, n := range l {
		out = append(out, n-1, n, n+1)
	}
	return append(out, 0, 1)
}

func TestP2_2Find(t *testing.T) {
	eachSample(t, func(t *testing.T, l []int, width int, x ints.Ints) {
		rising := slices.Sorted(slices.Values(l))
		y := pack(t, rising, width)
		for _, n := range around(rising) {
			if got, want := y.Find(n), modelFind(rising, n); got != want {
				t.Errorf("Find(%d) of %v: %d, want %d", n, rising, got, want)
			}
		}
	})
}

// All rows of up to six numbers from 0 to 3 that do not fall, many of them with
// the same numbers side by side.
func TestP2_2FindInAllShortRows(t *testing.T) {
	var grow func(l []int)
	grow = func(l []int) {
		x := pack(t, l, 2)
		for n := -2; n <= 5; n++ {
			if got, want := x.Find(n), modelFind(l, n); got != want {
				t.Errorf("Find(%d) of %v: %d, want %d", n, l, got, want)
			}
		}
		if len(l) == 6 {
			return
		}
		from := 0
		if len(l) > 0 {
			from = l[len(l)-1]
		}
		for n := from; n <= 3; n++ {
			grow(append(slices.Clone(l), n))
		}
	}
	grow(nil)
}

func TestP2_2FindInOtherRows(t *testing.T) {
	eachSample(t, func(t *testing.T, l []int, width int, x ints.Ints) {
		for _, n := range around(l) {
			if got := x.Find(n); got < 0 || got > len(l) {
				t.Errorf("Find(%d) of %v: %d, want a place from 0 to %d", n, l, got, len(l))
			}
		}
	})
}

func TestP2_3Bytes(t *testing.T) {
	eachSample(t, func(t *testing.T, l []int, width int, x ints.Ints) {
		if got, want := x.Bytes(), modelBytes(l, width); got != want {
			t.Errorf("Bytes of %v, width %d: %x, want %x", l, width, got, want)
		}
	})
}

// wantForm tells a fault, if Read does not refuse that with ErrForm.
func wantForm(t *testing.T, n, width int, s string) {
	t.Helper()
	x, e := ints.Read(n, width, s)
	if e != api.ErrForm {
		t.Errorf("Read(%d, %d) of %d bytes: %d, want 10", n, width, len(s), int(e))
	}
	wantZero(t, "Read", x)
}

func TestP2_3ReadOfOtherLengths(t *testing.T) {
	eachSample(t, func(t *testing.T, l []int, width int, x ints.Ints) {
		s := x.Bytes()
		for _, add := range []string{"\x00", "\x01", "\x00\x00\x00\x00\x00\x00\x00\x00"} {
			wantForm(t, len(l), width, s+add)
		}
		if len(s) > 0 {
			wantForm(t, len(l), width, s[:len(s)-1])
			wantForm(t, len(l), width, s[1:])
			wantForm(t, len(l), width, "")
		}
	})
}

func TestP2_3ReadOfBitsBehindTheLast(t *testing.T) {
	eachSample(t, func(t *testing.T, l []int, width int, x ints.Ints) {
		for at := len(l) * width % 8; at > 0 && at < 8; at++ {
			s := []byte(x.Bytes())
			s[len(s)-1] |= byte(1) << at
			wantForm(t, len(l), width, string(s))
		}
	})
}

func TestP2_3ReadOfWrongWidths(t *testing.T) {
	for _, width := range append([]int{63, 64, 65, 128}, far...) {
		for _, n := range []int{0, 1, 2, 8, 1 << 24} {
			for _, s := range []string{"", "\x00", strings.Repeat("\x00", 8), strings.Repeat("\x00", 16), strings.Repeat("\x00", 63), strings.Repeat("\x00", 64)} {
				wantForm(t, n, width, s)
			}
		}
	}
}

func TestP2_3ReadOfWrongCounts(t *testing.T) {
	for _, n := range append([]int{1<<24 + 1, 1<<24 + 2}, far...) {
		for _, width := range []int{0, 1, 2, 8, 32, 62} {
			wantForm(t, n, width, "")
			wantForm(t, n, width, "\x00")
		}
	}
	wantForm(t, 1<<24+1, 1, string(make([]byte, 1<<21+1)))
	wantForm(t, 1<<24+8, 1, string(make([]byte, 1<<21+1)))
}

func TestP2_3ReadOfNoNumbers(t *testing.T) {
	for width := range 63 {
		x, e := ints.Read(0, width, "")
		if e != api.OK || x.Len() != 0 || x.Width() != width || x.Bytes() != "" || !x.Same(pack(t, nil, width)) {
			t.Errorf("Read(0, %d) of no bytes: %d, %d numbers of width %d", width, int(e), x.Len(), x.Width())
		}
	}
}

func TestP2_3ReadOfTheMostNumbers(t *testing.T) {
	const most = 1 << 24
	x, e := ints.Read(most, 0, "")
	if e != api.OK || x.Len() != most || x.Width() != 0 || x.At(most-1) != 0 || x.At(most) != -1 {
		t.Errorf("Read(2^24, 0) of no bytes: %d, %d numbers", int(e), x.Len())
	}
	if l := x.List(); len(l) != most || slices.Max(l) != 0 {
		t.Errorf("List of 2^24 numbers of width 0: %d numbers", len(l))
	}
	if x.Find(0) != 0 || x.Find(1) != most {
		t.Errorf("Find(0), Find(1) in 2^24 zeros: %d, %d, want 0, 2^24", x.Find(0), x.Find(1))
	}
	s := make([]byte, most/8)
	s[len(s)-1] = 0x80
	y, e := ints.Read(most, 1, string(s))
	if e != api.OK || y.Len() != most || y.Find(1) != most-1 || y.At(most-1) != 1 || y.Bytes() != string(s) {
		t.Errorf("Read(2^24, 1): %d, %d numbers, Find(1) %d", int(e), y.Len(), y.Find(1))
	}
	wide := make([]byte, most*62/8)
	wide[len(wide)-1] = 0xff
	z, e := ints.Read(most, 62, string(wide))
	if e != api.OK || z.Len() != most || z.At(most-1) != 0xff<<54 || z.At(most-2) != 0 {
		t.Errorf("Read(2^24, 62): %d, %d numbers, the last one %x", int(e), z.Len(), z.At(most-1))
	}
}

// A list longer than Read takes is packed none the less: no limit is said of it.
func TestP2_2PackOfMoreThanIsRead(t *testing.T) {
	const n = 1<<24 + 1
	l := make([]int, n)
	l[n-1] = 1
	x := pack(t, l, 1)
	if x.Len() != n || x.At(n-1) != 1 || x.Find(1) != n-1 {
		t.Errorf("Pack of 2^24 + 1 numbers: %d, the last one %d", x.Len(), x.At(n-1))
	}
	wantForm(t, n, 1, x.Bytes())
}

func TestP2_3Same(t *testing.T) {
	eachSample(t, func(t *testing.T, l []int, width int, x ints.Ints) {
		if !x.Same(x) || !x.Same(pack(t, slices.Clone(l), width)) {
			t.Errorf("%v is not the same as itself", l)
		}
		if len(l) == 0 {
			return
		}
		if y := pack(t, l[1:], width); x.Same(y) || y.Same(x) {
			t.Errorf("%v is the same as with one number less", l)
		}
		for _, i := range []int{0, len(l) / 2, len(l) - 1} {
			for k := range width {
				m := slices.Clone(l)
				m[i] ^= 1 << k
				if y := pack(t, m, width); x.Same(y) || y.Same(x) {
					t.Errorf("%v is the same as %v", l, m)
				}
			}
		}
	})
}

// The same numbers, or the same bits, of another width or count are another row.
func TestP2_3SameOfOtherWidths(t *testing.T) {
	rows := []ints.Ints{
		{}, pack(t, nil, 1), pack(t, nil, 62),
		pack(t, []int{0}, 0), pack(t, []int{0, 0}, 0),
		pack(t, []int{0}, 1), pack(t, []int{0}, 2), pack(t, []int{0, 0}, 1),
		pack(t, []int{5}, 3), pack(t, []int{5}, 4), pack(t, []int{1, 0, 1}, 1),
		pack(t, []int{3}, 2), pack(t, []int{1, 1}, 1), pack(t, []int{15}, 4), pack(t, []int{3, 3}, 2),
	}
	for i, x := range rows {
		for k, y := range rows {
			if x.Same(y) != (i == k) {
				t.Errorf("row %d, Same of row %d: %v", i, k, x.Same(y))
			}
		}
	}
}

func TestP2_4WhatWasWrittenIsRead(t *testing.T) {
	eachSample(t, func(t *testing.T, l []int, width int, x ints.Ints) {
		y, e := ints.Read(len(l), width, x.Bytes())
		if e != api.OK || !y.Same(x) || !x.Same(y) || y.Bytes() != x.Bytes() {
			t.Fatalf("Read of Bytes of %v, width %d: %d", l, width, int(e))
		}
		if y.Len() != len(l) || y.Width() != width || !slices.Equal(y.List(), l) {
			t.Errorf("List behind Read: %v of width %d, want %v of width %d", y.List(), y.Width(), l, width)
		}
		for i, want := range l {
			if y.At(i) != want {
				t.Errorf("At(%d) behind Read: %d, want %d", i, y.At(i), want)
			}
		}
	})
}

// Of all short texts just those are read that are some row's Bytes.
func TestP2_4ReadOfAllShortTexts(t *testing.T) {
	texts := []string{""}
	for a := range 256 {
		texts = append(texts, string([]byte{byte(a)}))
		for b := range 256 {
			texts = append(texts, string([]byte{byte(a), byte(b)}))
		}
	}
	for n := range 5 {
		for width := range 6 {
			for _, s := range texts {
				x, e := ints.Read(n, width, s)
				if want, f := bits.Read(n*width, s); e != f || e == api.OK && want.Bytes() != x.Bytes() {
					t.Fatalf("Read(%d, %d, %x): %d, want %d", n, width, s, int(e), int(f))
				}
				if e == api.OK && modelBytes(x.List(), width) != s {
					t.Fatalf("Read(%d, %d, %x): %v", n, width, s, x.List())
				}
			}
		}
	}
}

func TestZeroRow(t *testing.T) {
	var x ints.Ints
	if x.Len() != 0 || x.Width() != 0 || len(x.List()) != 0 || x.Bytes() != "" {
		t.Errorf("a zero row: %d numbers of width %d", x.Len(), x.Width())
	}
	for _, i := range append([]int{0, 1}, far...) {
		if n, e := x.Get(i); n != 0 || e != api.ErrRange || x.At(i) != -1 {
			t.Errorf("place %d of a zero row: Get %d, %d, At %d", i, n, int(e), x.At(i))
		}
		if got := x.Find(i); got != 0 {
			t.Errorf("Find(%d) of a zero row: %d, want 0", i, got)
		}
	}
	for _, l := range [][]int{nil, {}} {
		if y := pack(t, l, 0); !x.Same(y) || !y.Same(x) {
			t.Errorf("a zero row is not that of no numbers of width 0")
		}
	}
	if y, e := ints.Read(0, 0, ""); e != api.OK || !y.Same(x) {
		t.Errorf("Read(0, 0) of no bytes: %d, want a zero row", int(e))
	}
	if !x.Same(ints.Ints{}) {
		t.Errorf("a zero row is not the same as another one")
	}
}

// R3: neither what was handed in nor what was told reaches the row any more.
func TestMemory(t *testing.T) {
	l := []int{5, 1, 7, 0, 3}
	want := slices.Clone(l)
	x := pack(t, l, 3)
	y, _ := ints.Tight(l)
	if !slices.Equal(l, want) {
		t.Errorf("Pack or Tight changed its list: %v", l)
	}
	clear(l)
	told := x.List()
	clear(told)
	for _, row := range []ints.Ints{x, y} {
		if !slices.Equal(row.List(), want) || row.Find(9) != 5 {
			t.Errorf("the row changed: %v, want %v", row.List(), want)
		}
	}
}

func TestExamples(t *testing.T) {
	x := pack(t, []int{5, 1, 7}, 3)
	if x.Bytes() != "\xcd\x01" || x.At(2) != 7 || x.At(3) != -1 {
		t.Errorf("Pack(5 1 7, 3): %x, %d, %d, want cd 01, 7, -1", x.Bytes(), x.At(2), x.At(3))
	}
	if ints.Width(7) != 3 || ints.Width(8) != 4 || ints.Width(0) != 0 {
		t.Errorf("Width of 7, 8, 0: %d, %d, %d, want 3, 4, 0", ints.Width(7), ints.Width(8), ints.Width(0))
	}
	if y, _ := ints.Tight([]int{1, 3, 4, 9}); y.Find(4) != 2 {
		t.Errorf("Find(4) of 1 3 4 9: %d, want 2", y.Find(4))
	}
}

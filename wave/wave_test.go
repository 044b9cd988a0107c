package wave_test

import (
	"math"
	"slices"
	"strings"
	"testing"

	"topiary/api"
	"topiary/bits"
	"topiary/ints"
	"topiary/wave"
)

// nothing tells whether a row is as the zero one, as far as what it is made of.
func nothing(w wave.Wave) bool {
	return w.Len() == 0 && w.Size() == 0 && len(w.Rows()) == 0 && len(w.List()) == 0
}

// rowOf is a row of bits, written as digits 0 and 1.
func rowOf(digits string) bits.Bits {
	w := bits.New()
	for _, digit := range digits {
		w.Add(digit == '1')
	}
	return w.Bits()
}

// rowsOf is those of several texts.
func rowsOf(texts ...string) []bits.Bits {
	var rows []bits.Bits
	for _, digits := range texts {
		rows = append(rows, rowOf(digits))
	}
	return rows
}

// sameRows tells whether both have the same rows of bits.
func sameRows(a, b []bits.Bits) bool {
	return slices.EqualFunc(a, b, bits.Bits.Same)
}

// refused tells a fault, if Load takes what is none's.
func refused(t *testing.T, why string, n, size int, rows []bits.Bits) {
	t.Helper()
	if w, e := wave.Load(n, size, rows); e != api.ErrForm || !nothing(w) {
		t.Errorf("Load with %s (%d symbols, size %d, %d rows): error %d, want ErrForm", why, n, size, len(rows), int(e))
	}
}

func TestP4_1NewRefusesSizes(t *testing.T) {
	for _, size := range noSizes {
		for _, l := range [][]int{nil, {}, {0}, {0, 1, 2}, {-1}, {65536}} {
			if w, e := wave.New(l, size); e != api.ErrArg || !nothing(w) {
				t.Errorf("New(%v, %d): error %d, want ErrArg", l, size, int(e))
			}
		}
	}
}

func TestP4_1NewRefusesWhatIsNoSymbol(t *testing.T) {
	for _, size := range sizes {
		no := append(slices.Clone(far), size, size+1, 2*size, 1<<16, 1<<16+1, 1<<32, 1<<32+size-1)
		for _, c := range no {
			for _, at := range []int{0, 5, 9} {
				l := listOf(10, mixed(uint32(size), size))
				l[at] = c
				if w, e := wave.New(l, size); e != api.ErrArg || !nothing(w) {
					t.Errorf("New with %d at %d, size %d: error %d, want ErrArg", c, at, size, int(e))
				}
			}
		}
	}
}

func TestP4_1NewTakesAllSymbols(t *testing.T) {
	for _, size := range sizes {
		l := listOf(size, func(i int) int { return i })
		if w := made(t, l, size); !slices.Equal(w.List(), l) {
			t.Errorf("all symbols of size %d are not told again", size)
		}
	}
}

func TestP4_1Rows(t *testing.T) {
	eachSample(t, func(t *testing.T, m *model, w wave.Wave) {
		rows, want := w.Rows(), m.rows()
		if len(rows) != len(want) || len(rows) != ints.Width(m.size-1) {
			t.Fatalf("%d rows of size %d, want %d", len(rows), m.size, len(want))
		}
		for k, row := range rows {
			if row.Len() != len(m.l) || !slices.Equal(row.List(), want[k]) {
				t.Fatalf("row %d of %d symbols, size %d: %v, want %v", k, len(m.l), m.size, row.List(), want[k])
			}
		}
	})
}

// Rows written out by hand: from the third one on, the symbols are in order by the
// first row's bit first, and only among those that have it alike by the second's.
func TestP4_1RowsByHand(t *testing.T) {
	for _, c := range []struct {
		l    []int
		size int
		rows []bits.Bits
	}{
		{[]int{3, 1, 2, 1}, 4, rowsOf("1010", "1110")},
		{[]int{3, 4}, 5, rowsOf("01", "10", "10")},
		{[]int{4, 3}, 5, rowsOf("10", "10", "10")},
		{[]int{2, 5}, 6, rowsOf("01", "10", "01")},
		{[]int{2, 33}, 34, rowsOf("01", "00", "00", "00", "10", "01")},
		{[]int{3, 1, 4, 1, 5, 0, 2, 1}, 6, rowsOf("00101000", "10001000", "11011001")},
		{[]int{5, 5, 2, 5, 5}, 6, rowsOf("11011", "10000", "01111")},
		{[]int{6, 1, 3, 4}, 8, rowsOf("1001", "0110", "1100")},
		{[]int{9, 6, 2, 15, 0}, 16, rowsOf("10010", "10001", "10101", "00011")},
		{[]int{1, 0, 0, 1}, 2, rowsOf("1001")},
		{[]int{0, 0, 0}, 1, nil},
		{nil, 1, nil},
		{nil, 5, rowsOf("", "", "")},
	} {
		w := made(t, c.l, c.size)
		if !sameRows(w.Rows(), c.rows) {
			t.Errorf("Rows of %v, size %d:", c.l, c.size)
			for _, row := range w.Rows() {
				t.Errorf("  %v", row.List())
			}
		}
		if v := loaded(t, len(c.l), c.size, c.rows); !slices.Equal(v.List(), c.l) {
			t.Errorf("Load of the rows of %v, size %d: %v", c.l, c.size, v.List())
		}
	}
}

// What is loaded is the row that was made, whatever made its rows of bits.
func TestP4_1Load(t *testing.T) {
	eachSample(t, func(t *testing.T, m *model, w wave.Wave) {
		var rows []bits.Bits
		for _, row := range madeRows(m) {
			read, e := bits.Read(row.Len(), row.Bytes())
			if e != api.OK {
				t.Fatalf("bits.Read: error %d", int(e))
			}
			rows = append(rows, read)
		}
		v := loaded(t, len(m.l), m.size, rows)
		if v.Len() != len(m.l) || v.Size() != m.size || !slices.Equal(v.List(), m.l) || !sameRows(v.Rows(), rows) {
			t.Fatalf("Load of %d symbols, size %d, is another row", len(m.l), m.size)
		}
	})
}

// madeRows are the model's rows of bits.
func madeRows(m *model) []bits.Bits {
	var rows []bits.Bits
	for _, row := range m.rows() {
		rows = append(rows, bits.Make(row))
	}
	return rows
}

// Any bits are the Rows of some list, if the size is a power of 2: what is loaded
// has them, and a size that is too small for one of its symbols refuses them.
func TestP4_1LoadOfAnyBits(t *testing.T) {
	for _, width := range []int{1, 2, 3, 4, 5, 7, 10, 16} {
		for _, n := range lengths {
			bit := mixed(uint32(width*1000+n), 2)
			rows := make([]bits.Bits, width)
			for k := range rows {
				rows[k] = bits.Make(listOfBits(make([]int, n), bit))
			}
			m := &model{size: 1 << width}
			w := loaded(t, n, m.size, rows)
			m.l = w.List()
			if !sameRows(madeRows(m), rows) || !sameRows(w.Rows(), rows) {
				t.Fatalf("Load of %d symbols, width %d, is a list with other rows", n, width)
			}
			if n == 0 || slices.Max(m.l) < m.size/2 {
				continue // of a lesser size, there would be fewer rows
			}
			greatest := slices.Max(m.l)
			loaded(t, n, greatest+1, rows)
			if greatest > m.size/2 {
				refused(t, "a symbol that is the size", n, greatest, rows)
			}
		}
	}
}

// The order is seen from the third row on: rows of two lists whose order differs
// there alone are of other symbols, one of which is none of the lesser size.
func TestP4_1LoadInThatOrder(t *testing.T) {
	rows := rowsOf("01", "10", "01")
	if w := loaded(t, 2, 6, rows); !slices.Equal(w.List(), []int{2, 5}) {
		t.Errorf("Load of 01 10 01, size 6: %v, want 2 5", w.List())
	}
	refused(t, "5", 2, 5, rows)
	if w := loaded(t, 2, 5, rowsOf("01", "10", "10")); !slices.Equal(w.List(), []int{3, 4}) {
		t.Errorf("Load of 01 10 10, size 5: %v, want 3 4", w.List())
	}
}

// Of short rows every bit there is, for every size: what some list has as its
// Rows is loaded as that list, all else is refused.
func TestP4_1LoadOfAllShortRows(t *testing.T) {
	for size := 1; size <= 9; size++ {
		width := ints.Width(size - 1)
		for n := 0; n <= 3; n++ {
			lists := map[string][]int{}
			eachList(n, size, func(l []int) {
				m := &model{l: slices.Clone(l), size: size}
				lists[keyOf(madeRows(m))] = m.l
			})
			took := 0
			for number := range 1 << (n * width) {
				rows := cutRows(number, n, width)
				l, is := lists[keyOf(rows)]
				if !is {
					refused(t, "a number that is no symbol", n, size, rows)
					continue
				}
				took++
				if w := loaded(t, n, size, rows); !slices.Equal(w.List(), l) || !sameRows(w.Rows(), rows) {
					t.Errorf("Load of the rows of %v, size %d: %v", l, size, w.List())
				}
			}
			if want := power(size, n); took != want {
				t.Errorf("%d lists of %d symbols, size %d, were loaded, want %d", took, n, size, want)
			}
		}
	}
}

// eachList goes over all lists of n symbols.
func eachList(n, size int, visit func(l []int)) {
	for number := range power(size, n) {
		l := make([]int, n)
		for i := range l {
			l[i] = number % size
			number /= size
		}
		visit(l)
	}
}

func power(size, n int) int {
	all := 1
	for range n {
		all *= size
	}
	return all
}

// cutRows is the bits of a number, cut into rows of n of them.
func cutRows(number, n, width int) []bits.Bits {
	var rows []bits.Bits
	for k := range width {
		l := make([]bool, n)
		for i := range l {
			l[i] = number>>(k*n+i)&1 == 1
		}
		rows = append(rows, bits.Make(l))
	}
	return rows
}

// keyOf is rows of bits as one text.
func keyOf(rows []bits.Bits) string {
	s := ""
	for _, row := range rows {
		s += "/" + row.Bytes()
	}
	return s
}

func TestP4_1LoadRefusesOtherNumbersOfRows(t *testing.T) {
	for _, size := range sizes {
		for _, n := range lengths {
			rows := made(t, listOf(n, mixed(uint32(n), size)), size).Rows()
			empty := bits.Make(make([]bool, n))
			refused(t, "a row of zeros more behind", n, size, append(slices.Clone(rows), empty))
			refused(t, "a row of zeros more ahead", n, size, append([]bits.Bits{empty}, rows...))
			if len(rows) > 0 {
				refused(t, "the last row less", n, size, rows[:len(rows)-1])
				refused(t, "the first row less", n, size, rows[1:])
				refused(t, "no rows", n, size, nil)
			}
		}
	}
}

func TestP4_1LoadRefusesOtherLengths(t *testing.T) {
	for _, size := range sizes[1:] {
		for _, n := range lengths {
			rows := made(t, make([]int, n), size).Rows()
			for k := range rows {
				for _, other := range []int{n - 1, n + 1, n + 64, 0, 2 * n} {
					if other < 0 || other == n {
						continue
					}
					wrong := slices.Clone(rows)
					wrong[k] = bits.Make(make([]bool, other))
					refused(t, "one row of another length", n, size, wrong)
				}
			}
			for _, other := range append(slices.Clone(far), n-1, n+1, n+64) {
				refused(t, "rows of another length", other, size, rows)
			}
		}
	}
}

func TestP4_1LoadRefusesSizes(t *testing.T) {
	for _, size := range noSizes {
		for _, rows := range [][]bits.Bits{nil, {}, rowsOf("0"), rowsOf("0", "0"), make([]bits.Bits, 16), make([]bits.Bits, 17), make([]bits.Bits, 64)} {
			for _, n := range []int{0, 1, -1} {
				refused(t, "no size", n, size, rows)
			}
		}
	}
}

// One number that is no symbol, at each place of a row, for all sizes that are no
// power of 2: the rows are those of the power of 2 above.
func TestP4_1LoadRefusesWhatIsNoSymbol(t *testing.T) {
	for _, size := range sizes {
		above := 1 << ints.Width(size-1)
		for _, c := range []int{size, (size + above) / 2, above - 1} {
			if c < size || c >= above {
				continue
			}
			for at := range 70 {
				l := listOf(70, mixed(uint32(at), size))
				if v := loaded(t, len(l), size, made(t, l, above).Rows()); !slices.Equal(v.List(), l) {
					t.Errorf("rows of size %d, loaded as of size %d: another list", above, size)
				}
				l[at] = c
				refused(t, "a number that is no symbol", len(l), size, made(t, l, above).Rows())
			}
		}
	}
}

func TestP4_1LoadOfLongRows(t *testing.T) {
	const most = 1 << 24
	w := loaded(t, most, 1, nil)
	if w.Len() != most || w.Rank(0, most) != most || w.Select(0, most-1) != most-1 || w.At(most-1) != 0 || w.At(most) != -1 {
		t.Errorf("a row of 2^24 symbols, size 1: Len %d", w.Len())
	}
	for _, n := range []int{most + 1, most + 2, 1 << 25, 1 << 32, math.MaxInt, math.MaxInt - 1, -1, -2, math.MinInt} {
		refused(t, "a length that is none", n, 1, nil)
		refused(t, "a length that is none", n, 2, rowsOf(""))
	}
	row, e := bits.Read(most, strings.Repeat("\x81", most/8))
	if e != api.OK {
		t.Fatalf("bits.Read: error %d", int(e))
	}
	v := loaded(t, most, 2, []bits.Bits{row})
	if v.Len() != most || v.Rank(1, most) != most/4 || v.Select(1, most/4-1) != most-1 || v.At(most-1) != 1 {
		t.Errorf("a row of 2^24 symbols, size 2: Len %d, Rank %d", v.Len(), v.Rank(1, most))
	}
	longer, e := bits.Read(most+1, strings.Repeat("\x81", most/8)+"\x00")
	if e != api.OK {
		t.Fatalf("bits.Read: error %d", int(e))
	}
	refused(t, "2^24 and one symbols", most+1, 2, []bits.Bits{longer})
}

func TestP4_2LenSizeList(t *testing.T) {
	eachSample(t, func(t *testing.T, m *model, w wave.Wave) {
		if w.Len() != len(m.l) || w.Size() != m.size || !slices.Equal(w.List(), m.l) {
			t.Fatalf("Len %d, Size %d, want %d, %d; or another List", w.Len(), w.Size(), len(m.l), m.size)
		}
	})
}

func TestP4_2GetAt(t *testing.T) {
	eachSample(t, func(t *testing.T, m *model, w wave.Wave) {
		for i, want := range m.l {
			if c, e := w.Get(i); c != want || e != api.OK || w.At(i) != want {
				t.Fatalf("Get(%d): %d, error %d, At %d, want %d", i, c, int(e), w.At(i), want)
			}
		}
		n := len(m.l)
		for _, i := range append([]int{-3, -2, -1, n, n + 1, n + 64, n + 256}, far...) {
			if c, e := w.Get(i); c != 0 || e != api.ErrRange || w.At(i) != -1 {
				t.Fatalf("Get(%d) of %d symbols: %d, error %d, At %d", i, n, c, int(e), w.At(i))
			}
		}
	})
}

func TestP4_2Rank(t *testing.T) {
	eachSample(t, func(t *testing.T, m *model, w wave.Wave) {
		for _, c := range m.symbols() {
			for _, i := range m.borders() {
				sameInt(t, m, "Rank", w.Rank(c, i), m.count(c, 0, i), c, i)
			}
		}
	})
}

// A number that is no symbol stands nowhere, though its last bits be a symbol's.
func TestP4_2WhatIsNoSymbol(t *testing.T) {
	eachSample(t, func(t *testing.T, m *model, w wave.Wave) {
		for _, c := range m.symbols() {
			if m.isSymbol(c) {
				continue
			}
			sameInt(t, m, "Rank", w.Rank(c, len(m.l)), 0, c, len(m.l))
			sameInt(t, m, "Count", w.Count(c, 0, len(m.l)), 0, c, 0, len(m.l))
			for _, k := range []int{0, 1, -1, len(m.l), math.MaxInt, math.MinInt} {
				sameInt(t, m, "Select", w.Select(c, k), -1, c, k)
			}
		}
	})
}

func TestP4_2Select(t *testing.T) {
	eachSample(t, func(t *testing.T, m *model, w wave.Wave) {
		for _, c := range m.symbols() {
			places := m.places(c)
			for k, want := range places {
				sameInt(t, m, "Select", w.Select(c, k), want, c, k)
			}
			n := len(places)
			for _, k := range append([]int{-2, -1, n, n + 1, n + 2, len(m.l), len(m.l) + 1}, far...) {
				if k < 0 || k >= n {
					sameInt(t, m, "Select", w.Select(c, k), -1, c, k)
				}
			}
		}
	})
}

func TestP4_2Count(t *testing.T) {
	eachSample(t, func(t *testing.T, m *model, w wave.Wave) {
		borders := m.borders()
		for j, c := range m.symbols() {
			for k, from := range borders {
				for _, to := range []int{borders[(7*k+j)%len(borders)], borders[(k+1)%len(borders)], from, math.MinInt, math.MaxInt} {
					sameInt(t, m, "Count", w.Count(c, from, to), m.count(c, from, to), c, from, to)
				}
			}
		}
	})
}

func TestP4_2Below(t *testing.T) {
	eachSample(t, func(t *testing.T, m *model, w wave.Wave) {
		for _, c := range m.symbols() {
			for _, i := range m.borders() {
				sameInt(t, m, "Below", w.Below(c, i), m.below(c, i), c, i)
			}
		}
		for _, i := range m.borders() {
			_, kept := m.kept(0, i)
			sameInt(t, m, "Below", w.Below(m.size, i), kept, m.size, i)
			sameInt(t, m, "Below", w.Below(math.MaxInt, i), kept, math.MaxInt, i)
			sameInt(t, m, "Below", w.Below(0, i), 0, 0, i)
			sameInt(t, m, "Below", w.Below(math.MinInt, i), 0, math.MinInt, i)
		}
	})
}

func TestP4_2Distinct(t *testing.T) {
	eachSample(t, func(t *testing.T, m *model, w wave.Wave) {
		borders := m.borders()
		for k := 0; k < len(borders); k += 3 {
			from := borders[k]
			for _, to := range []int{borders[5*k%len(borders)], from, math.MinInt, math.MaxInt} {
				if got, want := w.Distinct(from, to), m.distinct(from, to); !slices.Equal(got, want) {
					same(t, m, "Distinct", got, want, from, to)
				}
			}
		}
	})
}

// Every short list of small sizes, with all arguments in and around it.
func TestP4_2AllShortLists(t *testing.T) {
	for size := 1; size <= 5; size++ {
		for n := 0; n <= 4; n++ {
			eachList(n, size, func(l []int) {
				m := &model{l: l, size: size}
				w := made(t, l, size)
				for from := -1; from <= n+1; from++ {
					for to := -1; to <= n+1; to++ {
						if got, want := w.Distinct(from, to), m.distinct(from, to); !slices.Equal(got, want) {
							same(t, m, "Distinct", got, want, from, to)
						}
						for c := -1; c <= size; c++ {
							sameInt(t, m, "Count", w.Count(c, from, to), m.count(c, from, to), c, from, to)
						}
					}
					sameInt(t, m, "At", w.At(from), m.at(from), from)
					for c := -1; c <= size; c++ {
						sameInt(t, m, "Rank", w.Rank(c, from), m.count(c, 0, from), c, from)
						sameInt(t, m, "Below", w.Below(c, from), m.below(c, from), c, from)
						want := -1
						if places := m.places(c); from >= 0 && from < len(places) {
							want = places[from]
						}
						sameInt(t, m, "Select", w.Select(c, from), want, c, from)
					}
				}
			})
		}
	}
}

// A row so long that places need more bits than two bytes have.
func TestP4_2LongRow(t *testing.T) {
	const n = 1<<17 + 3
	for _, size := range []int{1, 2, 257, 65536} {
		m := &model{l: listOf(n, mixed(9, size)), size: size}
		w := made(t, m.l, size)
		if !slices.Equal(w.List(), m.l) {
			t.Errorf("%d symbols, size %d, are not told again", n, size)
		}
		for i := 0; i < n; i += 9973 {
			c := m.l[i]
			sameInt(t, m, "At", w.At(i), c, i)
			ahead := m.count(c, 0, i)
			sameInt(t, m, "Rank", w.Rank(c, i), ahead, c, i)
			sameInt(t, m, "Select", w.Select(c, ahead), i, c, ahead)
			sameInt(t, m, "Below", w.Below(c, i), m.below(c, i), c, i)
			sameInt(t, m, "Count", w.Count(c, i/2, i), m.count(c, i/2, i), c, i/2, i)
		}
		if got, want := w.Distinct(-1, n+1), m.distinct(0, n); !slices.Equal(got, want) {
			t.Errorf("Distinct of %d symbols, size %d: %d of them, want %d", n, size, len(got), len(want))
		}
	}
}

func TestP4_3SelectThenRank(t *testing.T) {
	eachSample(t, func(t *testing.T, m *model, w wave.Wave) {
		for _, c := range w.Distinct(0, w.Len()) {
			all := w.Rank(c, w.Len())
			for k := range all {
				i := w.Select(c, k)
				if w.At(i) != c || w.Rank(c, i) != k || w.Rank(c, i+1) != k+1 {
					t.Fatalf("Select(%d, %d): %d, where %d stands, with %d ahead", c, k, i, w.At(i), w.Rank(c, i))
				}
			}
			if all == 0 || w.Select(c, all) != -1 {
				t.Fatalf("%d stands there %d times; behind these at %d", c, all, w.Select(c, all))
			}
		}
	})
}

func TestP4_3RanksTogetherAreThePlace(t *testing.T) {
	eachSample(t, func(t *testing.T, m *model, w wave.Wave) {
		if m.size > 300 {
			return
		}
		for i := 0; i <= w.Len(); i += 1 + w.Len()/6 {
			all := 0
			for c := range w.Size() {
				if below := w.Below(c, i); below != all {
					t.Fatalf("Below(%d, %d): %d, the Ranks are %d", c, i, below, all)
				}
				all += w.Rank(c, i)
			}
			if all != i {
				t.Fatalf("all Ranks of place %d are %d", i, all)
			}
		}
	})
}

func TestP4_3RanksTogetherOfTheGreatestSize(t *testing.T) {
	w := made(t, listOf(300, mixed(3, 65536)), 65536)
	for _, i := range []int{0, 1, 150, 300} {
		all := 0
		for c := range w.Size() {
			all += w.Rank(c, i)
		}
		if all != i {
			t.Errorf("all Ranks of place %d are %d", i, all)
		}
	}
}

func TestZeroRow(t *testing.T) {
	var w wave.Wave
	if !nothing(w) {
		t.Errorf("the zero row: Len %d, Size %d, %d rows", w.Len(), w.Size(), len(w.Rows()))
	}
	args := append([]int{0, 1, 2, 255, 256}, far...)
	for _, a := range args {
		if c, e := w.Get(a); c != 0 || e != api.ErrRange || w.At(a) != -1 {
			t.Errorf("Get(%d): %d, error %d, At %d", a, c, int(e), w.At(a))
		}
		for _, b := range args {
			if w.Rank(a, b) != 0 || w.Below(a, b) != 0 || w.Select(a, b) != -1 || len(w.Distinct(a, b)) != 0 {
				t.Errorf("the zero row has something at %d, %d", a, b)
			}
			if w.Count(0, a, b) != 0 || w.Count(a, b, 1) != 0 {
				t.Errorf("the zero row counts something at %d, %d", a, b)
			}
		}
	}
}

// A row of no symbols has its size and its rows, which a zero one has not.
func TestNoSymbols(t *testing.T) {
	for _, size := range sizes {
		for _, w := range []wave.Wave{made(t, nil, size), made(t, []int{}, size), loaded(t, 0, size, make([]bits.Bits, ints.Width(size-1)))} {
			if w.Len() != 0 || w.Size() != size || len(w.List()) != 0 || len(w.Rows()) != ints.Width(size-1) {
				t.Errorf("no symbols, size %d: Len %d, Size %d, %d rows", size, w.Len(), w.Size(), len(w.Rows()))
			}
			if w.Rank(0, 1) != 0 || w.Select(0, 0) != -1 || w.Below(size, 1) != 0 || w.At(0) != -1 || len(w.Distinct(-1, 1)) != 0 {
				t.Errorf("no symbols, size %d: something stands there", size)
			}
		}
	}
}

// R3: neither what was handed in nor what was told reaches the row any more.
func TestMemory(t *testing.T) {
	l := listOf(300, mixed(5, 100))
	m := &model{l: l, size: 100}
	given := slices.Clone(l)
	w := made(t, given, 100)
	if !slices.Equal(given, l) {
		t.Errorf("New changed the list")
	}
	clear(given)
	rows := w.Rows()
	before := slices.Clone(rows)
	v := loaded(t, 300, 100, rows)
	if !sameRows(rows, before) {
		t.Errorf("Load changed the rows")
	}
	clear(rows)
	for _, x := range []wave.Wave{w, v} {
		clear(x.Rows())
		clear(x.List())
		clear(x.Distinct(0, 300))
		if !slices.Equal(x.List(), l) || !sameRows(x.Rows(), before) || !slices.Equal(x.Distinct(0, 300), m.distinct(0, 300)) {
			t.Errorf("the row changed")
		}
		for i, c := range l {
			sameInt(t, m, "At", x.At(i), c, i)
			sameInt(t, m, "Rank", x.Rank(c, i), m.count(c, 0, i), c, i)
		}
	}
}

func TestExamples(t *testing.T) {
	w := made(t, []int{3, 1, 2, 1}, 4)
	if w.Rank(1, 3) != 1 || w.Select(1, 1) != 3 || w.Select(0, 0) != -1 {
		t.Errorf("Rank(1, 3), Select(1, 1), Select(0, 0): %d, %d, %d, want 1, 3, -1", w.Rank(1, 3), w.Select(1, 1), w.Select(0, 0))
	}
	if d := w.Distinct(1, 4); !slices.Equal(d, []int{1, 2}) || w.Below(3, 4) != 3 || w.Count(1, 1, 4) != 2 {
		t.Errorf("Distinct(1, 4), Below(3, 4), Count(1, 1, 4): %v, %d, %d, want 1 2; 3; 2", d, w.Below(3, 4), w.Count(1, 1, 4))
	}
}

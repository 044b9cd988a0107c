package wave_test

import (
	"fmt"
	"math"
	"slices"
	"testing"

	"topiary/api"
	"topiary/bits"
	"topiary/ints"
	"topiary/wave"
)

// sizes are powers of 2, those beside them, and others; the first and the last
// one that there is are among them.
var sizes = []int{
	1, 2, 3, 4, 5, 6, 7, 8, 9, 15, 16, 17, 33, 100, 255, 256, 257, 1000, 1024,
	32768, 32769, 65535, 65536,
}

// noSizes are numbers that are no size, out to the ends of int.
var noSizes = []int{
	math.MinInt, math.MinInt + 1, -65536, -2, -1, 0,
	65537, 65538, 1 << 17, 1<<32 + 4, math.MaxInt - 1, math.MaxInt,
}

// lengths lie at the borders of words and blocks, and ahead of and behind them.
var lengths = []int{0, 1, 2, 3, 9, 63, 64, 65, 256, 257, 300}

// far are places, counts and symbols that no row has, out to the ends of int.
var far = []int{
	math.MinInt, math.MinInt + 1, -1 << 32, -65536, -257, -256, -64, -2, -1,
	65536, 65537, 1 << 24, 1 << 32, 1<<32 + 1, math.MaxInt - 1, math.MaxInt,
}

// mixed tells numbers below size that have no pattern, the same ones in each run.
func mixed(seed uint32, size int) func(int) int {
	return func(int) int {
		seed = seed*1664525 + 1013904223
		return int(seed>>8) % size
	}
}

// patterns are ways to tell symbol i: all the same, rising, falling, in turn, in
// runs, of few symbols that lie far from each other, and without a pattern.
func patterns(n, size int) []func(i int) int {
	few := mixed(uint32(size)+5, 3)
	return []func(i int) int{
		func(i int) int { return 0 },
		func(i int) int { return size - 1 },
		func(i int) int { return i % size },
		func(i int) int { return size - 1 - i%size },
		func(i int) int { return i % 2 * (size - 1) },
		func(i int) int { return i / 20 * 7 % size },
		func(i int) int { return i * 41 % size },
		func(i int) int { return few(i) * (size - 1) / 2 },
		mixed(uint32(n)+1, size),
	}
}

// listOf is the list of n numbers that way tells.
func listOf(n int, way func(i int) int) []int {
	l := make([]int, n)
	for i := range l {
		l[i] = way(i)
	}
	return l
}

// eachSample goes over rows of all sizes, lengths and patterns: as New makes them,
// and as Load makes them of their Rows.
func eachSample(t *testing.T, check func(t *testing.T, m *model, w wave.Wave)) {
	t.Helper()
	for _, size := range sizes {
		t.Run(fmt.Sprintf("size %d", size), func(t *testing.T) {
			for _, n := range lengths {
				for _, way := range patterns(n, size) {
					m := &model{l: listOf(n, way), size: size}
					w := made(t, m.l, size)
					check(t, m, w)
					check(t, m, loaded(t, n, size, w.Rows()))
				}
			}
		})
	}
}

// made is New, which must be OK.
func made(t *testing.T, l []int, size int) wave.Wave {
	t.Helper()
	w, e := wave.New(l, size)
	if e != api.OK {
		t.Fatalf("New of %d symbols, size %d: error %d", len(l), size, int(e))
	}
	return w
}

// loaded is Load, which must be OK.
func loaded(t *testing.T, n, size int, rows []bits.Bits) wave.Wave {
	t.Helper()
	w, e := wave.Load(n, size, rows)
	if e != api.OK {
		t.Fatalf("Load of %d symbols, size %d, %d rows: error %d", n, size, len(rows), int(e))
	}
	return w
}

// model tells by going over the list what a row of symbols must tell.
type model struct {
	l    []int
	size int
}

// rows are the bits that must be kept: those of each row in the order of the list
// behind one stable sort by all bits of the rows ahead, the first row's first. Of
// two symbols that is the order of what is left of them without the other bits.
func (m *model) rows() [][]bool {
	width := ints.Width(m.size - 1)
	out := make([][]bool, width)
	for k := range out {
		worth := 1 << (width - 1 - k)
		l := slices.Clone(m.l)
		slices.SortStableFunc(l, func(a, b int) int { return a/(2*worth) - b/(2*worth) })
		out[k] = listOfBits(l, func(c int) int { return c / worth % 2 })
	}
	return out
}

func listOfBits(l []int, bit func(c int) int) []bool {
	out := make([]bool, len(l))
	for i, c := range l {
		out[i] = bit(c) == 1
	}
	return out
}

func (m *model) kept(from, to int) (int, int) {
	from = min(max(from, 0), len(m.l))
	return from, min(max(to, from), len(m.l))
}

func (m *model) isSymbol(c int) bool { return c >= 0 && c < m.size }

func (m *model) at(i int) int {
	if i < 0 || i >= len(m.l) {
		return -1
	}
	return m.l[i]
}

func (m *model) count(c, from, to int) int {
	from, to = m.kept(from, to)
	count := 0
	for _, n := range m.l[from:to] {
		if n == c {
			count++
		}
	}
	return count
}

func (m *model) below(c, i int) int {
	_, i = m.kept(0, i)
	count := 0
	for _, n := range m.l[:i] {
		if n < c {
			count++
		}
	}
	return count
}

func (m *model) places(c int) []int {
	var out []int
	for i, n := range m.l {
		if n == c {
			out = append(out, i)
		}
	}
	return out
}

func (m *model) distinct(from, to int) []int {
	from, to = m.kept(from, to)
	out := slices.Clone(m.l[from:to])
	slices.Sort(out)
	return slices.Compact(out)
}

// symbols are some that stand in the row, those beside them, the ends of what may
// stand there, and far ones.
func (m *model) symbols() []int {
	out := append(slices.Clone(far), 0, 1, 2, m.size/2, m.size-2, m.size-1, m.size, m.size+1, 2*m.size)
	for i := 0; i < len(m.l); i += len(m.l)/5 + 1 {
		out = append(out, m.l[i]-1, m.l[i], m.l[i]+1, m.l[i]+m.size, m.l[i]+1<<16, m.l[i]-1<<16)
	}
	slices.Sort(out)
	return slices.Compact(out)
}

// borders are some places of the row, those close to its ends, and far ones.
func (m *model) borders() []int {
	n := len(m.l)
	out := append(slices.Clone(far), 0, 1, 2, n/3, n/2, n-2, n-1, n, n+1, n+2, n+64, n+256)
	for i := 63; i < n; i += 64 {
		out = append(out, i, i+1)
	}
	slices.Sort(out)
	return slices.Compact(out)
}

// same tells a fault, if a call told other than the model.
func same(t *testing.T, m *model, call string, got, want any, args ...int) {
	t.Helper()
	if g, w := fmt.Sprint(got), fmt.Sprint(want); g != w {
		l := m.l[:min(len(m.l), 20)]
		t.Fatalf("%s%v of %d symbols, size %d, %v..: %s, want %s", call, args, len(m.l), m.size, l, g, w)
	}
}

// sameInt is same for calls that are asked so often that their answers must not
// be written out each time.
func sameInt(t *testing.T, m *model, call string, got, want int, args ...int) {
	if got != want {
		t.Helper()
		same(t, m, call, got, want, args...)
	}
}

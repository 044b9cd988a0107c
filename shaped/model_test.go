package shaped_test

import (
	"container/heap"
	"fmt"
	"math"
	"math/big"
	"slices"
	"testing"

	"topiary/api"
	"topiary/shaped"
)

// sizes are powers of 2, those beside them, and others; the first and the last
// one that there is are among them.
var sizes = []int{1, 2, 3, 4, 5, 7, 8, 9, 17, 100, 256, 257, 1000, 65535, 65536}

// noSizes are numbers that are no size, out to the ends of int.
var noSizes = []int{
	math.MinInt, math.MinInt + 1, -65536, -2, -1, 0,
	65537, 65538, 1 << 17, 1<<32 + 4, math.MaxInt - 1, math.MaxInt,
}

// lengths lie at the borders of words and blocks, and ahead of and behind them.
var lengths = []int{0, 1, 2, 3, 9, 63, 64, 65, 256, 257, 300}

// far are places, counts and symbols that no row has, out to the ends of int.
var far = []int{
	math.MinInt, math.MinInt + 1, -1 << 32, -65536, -257, -256, -64, -2, -1,
	65536, 65537, 1 << 24, 1 << 32, 1<<32 + 1, math.MaxInt - 1, math.MaxInt,
}

// mixed tells numbers below size that have no pattern, the same ones in each run.
func mixed(seed uint32, size int) func(int) int {
	return func(int) int {
		seed = seed*1664525 + 1013904223
		return int(seed>>8) % size
	}
}

// listOf is the list of n numbers that way tells.
func listOf(n int, way func(i int) int) []int {
	l := make([]int, n)
	for i := range l {
		l[i] = way(i)
	}
	return l
}

// patterns are ways to tell symbol i: all the same, in turn, in runs, of few
// symbols that lie far from each other, without a pattern, and such that each
// symbol stands there about half as often as the one ahead.
func patterns(n, size int) []func(i int) int {
	few := mixed(uint32(size)+5, 3)
	return []func(i int) int{
		func(i int) int { return 0 },
		func(i int) int { return size - 1 },
		func(i int) int { return i % size },
		func(i int) int { return i % 2 * (size - 1) },
		func(i int) int { return i / 20 * 7 % size },
		func(i int) int { return few(i) * (size - 1) / 2 },
		mixed(uint32(n)+1, size),
		func(i int) int {
			c := 0
			for i++; i%2 == 0; i /= 2 {
				c++
			}
			return c % size
		},
	}
}

// modelHeap is one of symbols that were put together, as the chapter's words say.
type modelHeap struct {
	weight, number int
	symbols        []int
}

// modelHeaps are in order by weight, and of one weight by number.
type modelHeaps []modelHeap

func (h modelHeaps) Len() int { return len(h) }
func (h modelHeaps) Less(i, j int) bool {
	if h[i].weight != h[j].weight {
		return h[i].weight < h[j].weight
	}
	return h[i].number < h[j].number
}
func (h modelHeaps) Swap(i, j int) { h[i], h[j] = h[j], h[i] }
func (h *modelHeaps) Push(x any)   { *h = append(*h, x.(modelHeap)) }
func (h *modelHeaps) Pop() any {
	last := len(*h) - 1
	x := (*h)[last]
	*h = (*h)[:last]
	return x
}

// weightOf is what a count weighs.
func weightOf(count int) int {
	return min(count, 1<<60)
}

// modelDepths puts heaps together one by one, and counts on at all symbols of both.
func modelDepths(counts []int) []int {
	depths := make([]int, len(counts))
	h := &modelHeaps{}
	for c, n := range counts {
		if n > 0 {
			heap.Push(h, modelHeap{weightOf(n), c, []int{c}})
		}
	}
	for number := len(counts); h.Len() >= 2; number++ {
		a, b := heap.Pop(h).(modelHeap), heap.Pop(h).(modelHeap)
		symbols := slices.Concat(a.symbols, b.symbols)
		for _, c := range symbols {
			depths[c]++
		}
		heap.Push(h, modelHeap{weightOf(a.weight + b.weight), number, symbols})
	}
	return depths
}

// modelCodes counts the codes up as numbers.
func modelCodes(counts []int) []string {
	codes := make([]string, len(counts))
	depths := modelDepths(counts)
	number, last := big.NewInt(-1), 0
	for depth := 1; depth <= len(counts); depth++ {
		for c := range counts {
			if depths[c] != depth {
				continue
			}
			number.Add(number, big.NewInt(1))
			number.Lsh(number, uint(depth-last))
			last = depth
			codes[c] = fmt.Sprintf("%0*b", depth, number)
		}
		if depth > 200 {
			break
		}
	}
	return codes
}

// model tells by going over the list what a row of symbols must tell.
type model struct {
	l    []int
	size int
}

func (m *model) counts() []int {
	counts := make([]int, m.size)
	for _, c := range m.l {
		counts[c]++
	}
	return counts
}

func (m *model) at(i int) int {
	if i < 0 || i >= len(m.l) {
		return -1
	}
	return m.l[i]
}

func (m *model) rank(c, i int) int {
	count := 0
	for _, n := range m.l[:min(max(i, 0), len(m.l))] {
		if n == c {
			count++
		}
	}
	return count
}

func (m *model) places(c int) []int {
	var out []int
	for i, n := range m.l {
		if n == c {
			out = append(out, i)
		}
	}
	return out
}

// symbols are some that stand in the row, those beside them, the ends of what may
// stand there, and far ones.
func (m *model) symbols() []int {
	out := append(slices.Clone(far), 0, 1, 2, m.size/2, m.size-2, m.size-1, m.size, m.size+1, 2*m.size)
	for i := 0; i < len(m.l); i += len(m.l)/5 + 1 {
		out = append(out, m.l[i]-1, m.l[i], m.l[i]+1, m.l[i]+m.size, m.l[i]+1<<16, m.l[i]-1<<16)
	}
	slices.Sort(out)
	return slices.Compact(out)
}

// borders are some places of the row, those close to its ends, and far ones.
func (m *model) borders() []int {
	n := len(m.l)
	out := append(slices.Clone(far), 0, 1, 2, n/3, n/2, n-2, n-1, n, n+1, n+2, n+64, n+256)
	for i := 63; i < n; i += 64 {
		out = append(out, i, i+1)
	}
	slices.Sort(out)
	return slices.Compact(out)
}

// made is New, which must be OK.
func made(t *testing.T, l []int, size int) shaped.Shaped {
	t.Helper()
	s, e := shaped.New(l, size)
	if e != api.OK {
		t.Fatalf("New of %d symbols, size %d: error %d", len(l), size, int(e))
	}
	return s
}

// eachSample goes over rows of all sizes, lengths and patterns.
func eachSample(t *testing.T, check func(t *testing.T, m *model, s shaped.Shaped)) {
	t.Helper()
	for _, size := range sizes {
		t.Run(fmt.Sprintf("size %d", size), func(t *testing.T) {
			for _, n := range lengths {
				for _, way := range patterns(n, size) {
					m := &model{l: listOf(n, way), size: size}
					check(t, m, made(t, m.l, size))
				}
			}
		})
	}
}

// same tells a fault, if a call told other than the model.
func same(t *testing.T, m *model, call string, got, want any, args ...int) {
	t.Helper()
	if g, w := fmt.Sprint(got), fmt.Sprint(want); g != w {
		l := m.l[:min(len(m.l), 20)]
		t.Fatalf("%s%v of %d symbols, size %d, %v..: %s, want %s", call, args, len(m.l), m.size, l, g, w)
	}
}

// sameInt is same for calls that are asked so often that their answers must not
// be written out each time.
func sameInt(t *testing.T, m *model, call string, got, want int, args ...int) {
	if got != want {
		t.Helper()
		same(t, m, call, got, want, args...)
	}
}

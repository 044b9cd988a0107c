package rank_test

import (
	"fmt"
	"math"
	"slices"
	"testing"

	"topiary/api"
	"topiary/bits"
	"topiary/rank"
)

// lengths lie at the borders of words and of blocks of any usual size, and
// ahead of and behind them.
var lengths = []int{
	0, 1, 2, 3, 7, 8, 9, 31, 32, 33, 63, 64, 65, 127, 128, 129, 191, 192, 193,
	255, 256, 257, 319, 320, 321, 511, 512, 513, 767, 768, 769, 1023, 1024, 1025, 1280, 1300,
}

// far are places and counts that no row has, out to the ends of int.
var far = []int{
	math.MinInt, math.MinInt + 1, math.MinInt + 256, -1 << 32, -257, -256, -255, -64, -2, -1,
	1 << 24, 1 << 32, math.MaxInt - 256, math.MaxInt - 1, math.MaxInt,
}

// mixed tells bits that have no pattern, one of out of them 1, the same ones in
// each run.
func mixed(seed, out uint32) func(int) bool {
	return func(int) bool {
		seed = seed*1664525 + 1013904223
		return seed>>8%out == 0
	}
}

// patterns are ways to tell bit i of n: all the same, one that is other than the
// rest, at the begin, in the middle and at the end, bits in turn, blocks in
// turn, halves, and bits without a pattern, many and few of them 1.
func patterns(n int) []func(i int) bool {
	ways := []func(i int) bool{
		func(i int) bool { return false },
		func(i int) bool { return i == 0 },
		func(i int) bool { return i == n/2 },
		func(i int) bool { return i == n-1 },
		func(i int) bool { return i%2 == 0 },
		func(i int) bool { return i%7 == 3 },
		func(i int) bool { return i/64%2 == 0 },
		func(i int) bool { return i/256%2 == 0 },
		func(i int) bool { return i < n/2 },
		func(i int) bool { return i%256 == 255 },
		func(i int) bool { return i%256 == 0 },
		mixed(1, 2),
		mixed(uint32(n)+7, 2),
		mixed(uint32(n)+3, 50),
	}
	for _, way := range slices.Clone(ways) {
		ways = append(ways, func(i int) bool { return !way(i) })
	}
	return ways
}

// listOf is the list of n bits that way tells.
func listOf(n int, way func(i int) bool) []bool {
	l := make([]bool, n)
	for i := range l {
		l[i] = way(i)
	}
	return l
}

// eachSample goes over all patterns of all lengths, counted.
func eachSample(t *testing.T, check func(t *testing.T, m *model, r rank.Rank)) {
	t.Helper()
	for _, n := range lengths {
		t.Run(fmt.Sprintf("%d bits", n), func(t *testing.T) {
			for _, way := range patterns(n) {
				l := listOf(n, way)
				check(t, modelOf(l), rank.New(bits.Make(l)))
			}
		})
	}
}

// model tells by lists, made bit by bit, what a rank must tell.
type model struct {
	l      []bool
	ones   []int // places of ones
	zeros  []int // places of zeros
	before []int // how many ones are ahead of each place, and of Len
	next   []int // the first one from each place on
	prev   []int // the last one up to each place
}

func modelOf(l []bool) *model {
	m := &model{l: l, before: make([]int, len(l)+1), next: make([]int, len(l)), prev: make([]int, len(l))}
	last := -1
	for i, bit := range l {
		m.before[i+1] = m.before[i]
		if bit {
			m.before[i+1]++
			m.ones = append(m.ones, i)
			last = i
		} else {
			m.zeros = append(m.zeros, i)
		}
		m.prev[i] = last
	}
	last = -1
	for i := len(l) - 1; i >= 0; i-- {
		if l[i] {
			last = i
		}
		m.next[i] = last
	}
	return m
}

func (m *model) kept(i int) int { return min(max(i, 0), len(m.l)) }

func (m *model) one(i int) int {
	if i >= 0 && i < len(m.l) && m.l[i] {
		return 1
	}
	return 0
}

func (m *model) rank1(i int) int { return m.before[m.kept(i)] }

func (m *model) rank0(i int) int { return m.kept(i) - m.before[m.kept(i)] }

// placeAt is number k of a list of places; -1, if there is none.
func placeAt(places []int, k int) int {
	if k < 0 || k >= len(places) {
		return -1
	}
	return places[k]
}

func (m *model) next1(i int) int { return placeAt(m.next, max(i, 0)) }

func (m *model) prev1(i int) int { return placeAt(m.prev, min(i, len(m.l)-1)) }

// places are all of a row, those close to it, and far ones.
func (m *model) places() []int {
	out := slices.Clone(far)
	for i := -3; i <= len(m.l)+3; i++ {
		out = append(out, i)
	}
	return append(out, len(m.l)+63, len(m.l)+64, len(m.l)+255, len(m.l)+256, len(m.l)+257)
}

// same tells a fault, if a call told other than the model.
func same(t *testing.T, m *model, call string, i, got, want int) {
	t.Helper()
	if got != want {
		t.Fatalf("%s(%d) of %d bits, %d of them 1: %d, want %d", call, i, len(m.l), len(m.ones), got, want)
	}
}

// checkAt holds all calls with one number against the model.
func checkAt(t *testing.T, m *model, r rank.Rank, i int) {
	t.Helper()
	same(t, m, "One", i, r.One(i), m.one(i))
	same(t, m, "Rank1", i, r.Rank1(i), m.rank1(i))
	same(t, m, "Rank0", i, r.Rank0(i), m.rank0(i))
	same(t, m, "Select1", i, r.Select1(i), placeAt(m.ones, i))
	same(t, m, "Select0", i, r.Select0(i), placeAt(m.zeros, i))
	same(t, m, "Next1", i, r.Next1(i), m.next1(i))
	same(t, m, "Prev1", i, r.Prev1(i), m.prev1(i))
}

func TestP3_1LenOnesBits(t *testing.T) {
	eachSample(t, func(t *testing.T, m *model, r rank.Rank) {
		if r.Len() != len(m.l) || r.Ones() != len(m.ones) {
			t.Errorf("Len %d, Ones %d, want %d, %d", r.Len(), r.Ones(), len(m.l), len(m.ones))
		}
		if b := r.Bits(); !b.Same(bits.Make(m.l)) || !slices.Equal(b.List(), m.l) {
			t.Errorf("Bits: %v, want %v", b.List(), m.l)
		}
	})
}

func TestP3_1One(t *testing.T) {
	eachSample(t, func(t *testing.T, m *model, r rank.Rank) {
		for _, i := range m.places() {
			same(t, m, "One", i, r.One(i), m.one(i))
			same(t, m, "One", i, r.One(i), bits.Make(m.l).One(i))
		}
	})
}

func TestP3_1Ranks(t *testing.T) {
	eachSample(t, func(t *testing.T, m *model, r rank.Rank) {
		for _, i := range m.places() {
			same(t, m, "Rank1", i, r.Rank1(i), m.rank1(i))
			same(t, m, "Rank0", i, r.Rank0(i), m.rank0(i))
		}
	})
}

// Places outside the row tell what its ends tell.
func TestP3_1RanksAreKept(t *testing.T) {
	eachSample(t, func(t *testing.T, m *model, r rank.Rank) {
		for _, i := range []int{0, -1, -256, math.MinInt, math.MinInt + 1} {
			same(t, m, "Rank1", i, r.Rank1(i), 0)
			same(t, m, "Rank0", i, r.Rank0(i), 0)
		}
		for _, i := range []int{0, 1, 63, 64, 255, 256, 257, math.MaxInt - len(m.l)} {
			same(t, m, "Rank1", len(m.l)+i, r.Rank1(len(m.l)+i), len(m.ones))
			same(t, m, "Rank0", len(m.l)+i, r.Rank0(len(m.l)+i), len(m.zeros))
		}
	})
}

func TestP3_2Selects(t *testing.T) {
	eachSample(t, func(t *testing.T, m *model, r rank.Rank) {
		for _, k := range m.places() {
			same(t, m, "Select1", k, r.Select1(k), placeAt(m.ones, k))
			same(t, m, "Select0", k, r.Select0(k), placeAt(m.zeros, k))
		}
	})
}

// At the number of such bits there is none any more.
func TestP3_2SelectsBehindTheLast(t *testing.T) {
	eachSample(t, func(t *testing.T, m *model, r rank.Rank) {
		for _, more := range []int{0, 1, 2, 255, 256, 257} {
			same(t, m, "Select1", len(m.ones)+more, r.Select1(len(m.ones)+more), -1)
			same(t, m, "Select0", len(m.zeros)+more, r.Select0(len(m.zeros)+more), -1)
		}
		if n := len(m.ones); n > 0 {
			same(t, m, "Select1", n-1, r.Select1(n-1), m.ones[n-1])
		}
		if n := len(m.zeros); n > 0 {
			same(t, m, "Select0", n-1, r.Select0(n-1), m.zeros[n-1])
		}
	})
}

func TestP3_2Next1(t *testing.T) {
	eachSample(t, func(t *testing.T, m *model, r rank.Rank) {
		for _, i := range m.places() {
			same(t, m, "Next1", i, r.Next1(i), m.next1(i))
		}
	})
}

func TestP3_2Prev1(t *testing.T) {
	eachSample(t, func(t *testing.T, m *model, r rank.Rank) {
		for _, i := range m.places() {
			same(t, m, "Prev1", i, r.Prev1(i), m.prev1(i))
		}
	})
}

// One bit that is other than the rest, at each place of a row of some blocks.
func TestP3_2OneBitAtEachPlace(t *testing.T) {
	const n = 600
	for at := range n {
		for _, other := range []bool{true, false} {
			l := listOf(n, func(i int) bool { return (i == at) == other })
			m, r := modelOf(l), rank.New(bits.Make(l))
			for _, i := range append([]int{0, 1, at - 1, at, at + 1, n - 2, n - 1, n, n + 1}, far...) {
				checkAt(t, m, r, i)
			}
			if other {
				same(t, m, "Select1", 0, r.Select1(0), at)
			} else {
				same(t, m, "Select0", 0, r.Select0(0), at)
			}
		}
	}
}

func TestP3_2AllShortRows(t *testing.T) {
	for n := range 11 {
		for number := range 1 << n {
			l := listOf(n, func(i int) bool { return number>>i&1 == 1 })
			m, r := modelOf(l), rank.New(bits.Make(l))
			for i := -2; i <= n+2; i++ {
				checkAt(t, m, r, i)
			}
			checkAt(t, m, r, math.MinInt)
			checkAt(t, m, r, math.MaxInt)
		}
	}
}

// Rows so long that places and counts need more bits than two bytes have.
func TestP3_2LongRows(t *testing.T) {
	for _, n := range []int{1<<17 - 1, 1 << 17, 1<<17 + 1} {
		for k, way := range patterns(n) {
			l := listOf(n, way)
			m, r := modelOf(l), rank.New(bits.Make(l))
			if r.Len() != n || r.Ones() != len(m.ones) {
				t.Errorf("pattern %d: Len %d, Ones %d, want %d, %d", k, r.Len(), r.Ones(), n, len(m.ones))
			}
			for i := -1; i <= n+1; i += 61 {
				checkAt(t, m, r, i)
			}
			for _, count := range []int{len(m.ones), len(m.zeros), n / 2, n} {
				for more := -2; more <= 2; more++ {
					checkAt(t, m, r, count+more)
				}
			}
		}
	}
}

func TestP3_3SelectThenRank(t *testing.T) {
	eachSample(t, func(t *testing.T, m *model, r rank.Rank) {
		for k := range r.Ones() {
			at := r.Select1(k)
			if r.One(at) != 1 || r.Rank1(at) != k || r.Rank1(at+1) != k+1 {
				t.Fatalf("Select1(%d): %d, with %d ones ahead, %d with it", k, at, r.Rank1(at), r.Rank1(at+1))
			}
		}
		for k := range r.Len() - r.Ones() {
			at := r.Select0(k)
			if at < 0 || at >= r.Len() || r.One(at) != 0 || r.Rank0(at) != k || r.Rank0(at+1) != k+1 {
				t.Fatalf("Select0(%d): %d, with %d zeros ahead, %d with it", k, at, r.Rank0(at), r.Rank0(at+1))
			}
		}
	})
}

func TestP3_3RanksTogetherAreThePlace(t *testing.T) {
	eachSample(t, func(t *testing.T, m *model, r rank.Rank) {
		for i := range r.Len() + 1 {
			if ones, zeros := r.Rank1(i), r.Rank0(i); ones+zeros != i || ones < 0 || zeros < 0 {
				t.Fatalf("Rank1(%d), Rank0(%d): %d, %d", i, i, ones, zeros)
			}
		}
	})
}

// A row answers alike, whether it was made of a list, built or read.
func TestP3_1RowsOfAllMakers(t *testing.T) {
	for _, n := range lengths {
		l := listOf(n, mixed(uint32(n), 3))
		m := modelOf(l)
		w := bits.New()
		for _, bit := range l {
			w.Add(bit)
		}
		read, e := bits.Read(n, w.Bits().Bytes())
		if e != api.OK {
			t.Fatalf("Read of %d bits: %d", n, int(e))
		}
		for _, b := range []bits.Bits{w.Bits(), read} {
			r := rank.New(b)
			for _, i := range m.places() {
				checkAt(t, m, r, i)
			}
			if !r.Bits().Same(b) {
				t.Errorf("Bits of %d bits is another row", n)
			}
		}
	}
}

func TestZeroRank(t *testing.T) {
	m := modelOf(nil)
	for _, r := range []rank.Rank{{}, rank.New(bits.Bits{}), rank.New(bits.Make(nil)), rank.New(bits.New().Bits())} {
		if r.Len() != 0 || r.Ones() != 0 || r.Bits().Len() != 0 || !r.Bits().Same(bits.Bits{}) {
			t.Errorf("a rank of no bits: Len %d, Ones %d", r.Len(), r.Ones())
		}
		for _, i := range append([]int{0, 1, 2, 255, 256}, far...) {
			checkAt(t, m, r, i)
			if r.One(i) != 0 || r.Rank1(i) != 0 || r.Rank0(i) != 0 {
				t.Errorf("a rank of no bits counts some ahead of %d", i)
			}
			if r.Select1(i) != -1 || r.Select0(i) != -1 || r.Next1(i) != -1 || r.Prev1(i) != -1 {
				t.Errorf("a rank of no bits finds some at %d", i)
			}
		}
	}
}

// R3: neither the list or builder of the row nor what was told of it reaches the
// rank any more.
func TestMemory(t *testing.T) {
	l := listOf(300, mixed(5, 2))
	given := slices.Clone(l)
	w := bits.New()
	for _, bit := range l {
		w.Add(bit)
	}
	ranks := []rank.Rank{rank.New(bits.Make(given)), rank.New(w.Bits())}
	clear(given)
	for range 300 {
		w.Add(true)
	}
	m := modelOf(l)
	for _, r := range ranks {
		clear(r.Bits().List())
		if r.Len() != 300 || r.Ones() != len(m.ones) || !slices.Equal(r.Bits().List(), l) {
			t.Errorf("the rank changed: Len %d, Ones %d", r.Len(), r.Ones())
		}
		for _, i := range m.places() {
			checkAt(t, m, r, i)
		}
	}
}

func TestExamples(t *testing.T) {
	r := rank.New(bits.Make([]bool{true, false, true, true}))
	if r.Rank1(3) != 2 || r.Rank0(3) != 1 {
		t.Errorf("Rank1(3), Rank0(3): %d, %d, want 2, 1", r.Rank1(3), r.Rank0(3))
	}
	if r.Select1(2) != 3 || r.Select0(0) != 1 || r.Select0(1) != -1 {
		t.Errorf("Select1(2), Select0(0), Select0(1): %d, %d, %d, want 3, 1, -1", r.Select1(2), r.Select0(0), r.Select0(1))
	}
	if r.Next1(1) != 2 || r.Prev1(1) != 0 {
		t.Errorf("Next1(1), Prev1(1): %d, %d, want 2, 0", r.Next1(1), r.Prev1(1))
	}
}

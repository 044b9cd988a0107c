package fm_test

import (
	"math"
	"slices"
)

// lengths lie at the multiples of 8, and ahead of and behind them.
var lengths = []int{0, 1, 2, 3, 7, 8, 9, 15, 16, 17, 24, 25, 31, 40}

// sizes are the first one and the last one that there is, powers of 2, and others.
var sizes = []int{1, 2, 3, 4, 5, 8, 256, 257, 65534, 65535}

// far are numbers that are no symbols and no places, out to the ends of int.
var far = []int{
	math.MinInt, math.MinInt + 1, -1 << 32, -65537, -2, -1,
	65535, 65536, 1 << 32, math.MaxInt - 1, math.MaxInt,
}

// mixed tells numbers below size that have no pattern, the same ones in each run.
func mixed(seed uint64, size int) func(int) int {
	return func(int) int {
		seed = seed*6364136223846793005 + 1442695040888963407
		return int(seed>>33) % size
	}
}

// listOf is the list of n numbers that way tells.
func listOf(n int, way func(i int) int) []int {
	l := make([]int, n)
	for i := range l {
		l[i] = way(i)
	}
	return l
}

// again is a row in which one part stands again and again.
func again(n int, part ...int) []int {
	return listOf(n, func(i int) int { return part[i%len(part)] })
}

// rows are rows of n symbols of that size, of all kinds.
func rows(n, size int) [][]int {
	last := size - 1
	few := mixed(uint64(n), min(size, 2))
	return [][]int{
		again(n, 0),
		again(n, last),
		again(n, 0, last),
		again(n, last, last/2, 0),
		again(n, 0, last, 0, 0, last),
		again(n, 1%size, 0, 1%size, 2%size, 0, 1%size, 0, last),
		listOf(n, func(i int) int { return i % size }),
		listOf(n, func(i int) int { return last - i%size }),
		listOf(n, func(i int) int { return i / 3 % size }),
		listOf(n, func(i int) int { return i / max(n-1, 1) * last }),
		listOf(n, func(i int) int { return (n - i) / max(n, 1) * last }),
		listOf(n, few),
		listOf(n, mixed(uint64(size), size)),
	}
}

// eachList goes over all lists of up to n of some numbers.
func eachList(n int, of []int, visit func(l []int)) {
	var more func(l []int)
	more = func(l []int) {
		visit(l)
		if len(l) == n {
			return
		}
		for _, x := range of {
			more(append(l[:len(l):len(l)], x))
		}
	}
	more(nil)
}

// changed is a list with another number at a place.
func changed[E any](l []E, place int, other E) []E {
	out := slices.Clone(l)
	out[place] = other
	return out
}

// model tells by going over the list what is to be told of a row.
type model struct {
	l    []int
	size int
}

// begins are where the suffixes begin, the empty one's too, by rising suffixes: they
// are held against each other whole.
func (m model) begins() []int {
	out := listOf(len(m.l)+1, func(i int) int { return i })
	slices.SortFunc(out, func(p, q int) int { return slices.Compare(m.l[p:], m.l[q:]) })
	return out
}

// wave, marks and samples are the words of the document.
func (m model) wave() []int {
	in := m.begins()
	return listOf(len(in), func(i int) int {
		if in[i] == 0 {
			return 0
		}
		return m.l[in[i]-1] + 1
	})
}

func (m model) isMarked(begin int) bool { return begin%8 == 0 || begin == len(m.l) }

func (m model) marks() []bool {
	var out []bool
	for _, begin := range m.begins() {
		out = append(out, m.isMarked(begin))
	}
	return out
}

func (m model) samples() []int {
	return slices.DeleteFunc(m.begins(), func(begin int) bool { return !m.isMarked(begin) })
}

// stands tells whether p stands in the list from a place on.
func (m model) stands(p []int, place int) bool {
	return len(p) <= len(m.l)-place && slices.Equal(m.l[place:place+len(p)], p)
}

func (m model) rangeOf(p []int) (from, to int) {
	for place := range len(m.l) + 1 {
		if m.stands(p, place) {
			to++
		} else if slices.Compare(m.l[place:], p) < 0 {
			from++
		}
	}
	return from, from + to
}

func (m model) find(p []int) []int {
	var out []int
	for place := range len(m.l) + 1 {
		if m.stands(p, place) {
			out = append(out, place)
		}
	}
	return out
}

// extract counts on symbol by symbol.
func (m model) extract(from, n int) []int {
	var out []int
	for i := max(from, 0); i < len(m.l) && len(out) < n; i++ {
		out = append(out, m.l[i])
	}
	return out
}

// isTurned tells whether these numbers are the wave of some row, and of which one: a
// row turned, written ahead of its sorted rows again and again, tells the rows that go
// round.
func isTurned(b []int) ([]int, bool) {
	table := make([][]int, len(b))
	for range b {
		for i, number := range b {
			table[i] = slices.Concat([]int{number}, table[i])
		}
		slices.SortFunc(table, slices.Compare)
	}
	for _, row := range table {
		end := len(row) - 1
		l := listOf(end, func(i int) int { return row[i] - 1 })
		if row[end] == 0 && !slices.Contains(l, -1) && slices.Equal(model{l: l}.wave(), b) {
			return l, true
		}
	}
	return nil, false
}

// noSymbols are numbers that no row of the model's size has.
func (m model) noSymbols() []int {
	out := slices.Concat(far, []int{m.size, m.size + 1, m.size + 65536, 65536 - m.size})
	return slices.DeleteFunc(out, func(c int) bool { return c >= 0 && c < m.size })
}

// standing are rows that stand there, and such with another number, first and last.
func (m model) standing() [][]int {
	n := len(m.l)
	out := [][]int{{0}, {m.size - 1}, {0, m.size - 1}}
	for from := 0; from < n; from += 1 + n/6 {
		for _, length := range []int{1, 2, 7, n} {
			part := m.l[from:min(from+length, n)]
			out = append(out, part, changed(part, 0, (part[0]+1)%m.size), changed(part, len(part)-1, 0))
		}
	}
	return out
}

// patterns are rows to be found: the empty one, such as may stand there, longer ones
// than the whole, and such with numbers that are no symbols.
func (m model) patterns() [][]int {
	out := append(m.standing(), nil, slices.Concat(m.l, m.l), slices.Concat(m.l, []int{0}))
	out = append(out, slices.Concat([]int{0}, m.l), slices.Concat(m.l, []int{m.size - 1}))
	out = append(out, again(2*len(m.l)+2, 0), again(len(m.l)+70, m.size-1))
	for _, c := range []int{math.MinInt, -1, m.size, m.size + 1, math.MaxInt} {
		out = append(out, m.parted(c)...)
	}
	return out
}

// parted are rows with a number that is no symbol, first, in the middle, last, and in
// all places.
func (m model) parted(c int) [][]int {
	last, half := m.size-1, m.l[len(m.l)/2:]
	return [][]int{
		{c}, {c, 0}, {0, c}, {last, c}, {0, c, last}, {last, c, 0}, {0, 0, c},
		slices.Concat(m.l, []int{c}), slices.Concat([]int{c}, m.l), slices.Concat(half, []int{c}, half),
	}
}

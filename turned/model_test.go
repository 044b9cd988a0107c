package turned_test

import (
	"math"
	"slices"
)

// lengths have all rests by three, as suffixes are put in order by these.
var lengths = []int{0, 1, 2, 3, 4, 5, 6, 7, 8, 13, 27, 40, 82}

// mixed tells numbers below size that have no pattern, the same ones in each run.
func mixed(seed uint64, size int) func() int {
	return func() int {
		seed = seed*6364136223846793005 + 1442695040888963407
		return int(seed>>33) % size
	}
}

// listOf is the list of n numbers that way tells.
func listOf(n int, way func(i int) int) []int {
	l := make([]int, n)
	for i := range l {
		l[i] = way(i)
	}
	return l
}

// again is a row in which one part stands again and again.
func again(n int, part ...int) []int {
	return listOf(n, func(i int) int { return part[i%len(part)] })
}

// rows are rows of n numbers from 0 on, of all kinds.
func rows(n int) [][]int {
	few, some, many := mixed(uint64(n), 2), mixed(uint64(n)+1, 4), mixed(uint64(n)+2, 1<<30)
	return [][]int{
		again(n, 0),
		again(n, 7),
		again(n, math.MaxInt),
		again(n, 0, 1),
		again(n, 1, 0),
		again(n, 0, math.MaxInt),
		again(n, math.MaxInt, 0, math.MaxInt-1),
		again(n, 2, 1, 0),
		again(n, 0, 1, 0, 0, 1),
		listOf(n, func(i int) int { return i }),
		listOf(n, func(i int) int { return n - 1 - i }),
		listOf(n, func(i int) int { return i << 40 }),
		listOf(n, func(i int) int { return math.MaxInt - i }),
		listOf(n, func(i int) int { return i / 2 }),
		listOf(n, func(i int) int { return (n - i) / 3 }),
		listOf(n, func(i int) int { return i * (n - 1 - i) }),
		listOf(n, func(i int) int { return i / max(n-1, 1) }),
		listOf(n, func(i int) int { return (n - i) / max(n, 1) }),
		listOf(n, func(int) int { return few() }),
		listOf(n, func(int) int { return some() }),
		listOf(n, func(int) int { return many() << 32 }),
	}
}

// eachList goes over all lists of up to n of some numbers.
func eachList(n int, of []int, visit func(l []int)) {
	var more func(l []int)
	more = func(l []int) {
		visit(l)
		if len(l) == n {
			return
		}
		for _, x := range of {
			more(append(l[:len(l):len(l)], x))
		}
	}
	more(nil)
}

// changed is a list with another number at a place.
func changed(l []int, place, number int) []int {
	out := slices.Clone(l)
	out[place] = number
	return out
}

// exchanged is a list with the numbers at two places exchanged.
func exchanged(l []int, i, j int) []int {
	out := slices.Clone(l)
	out[i], out[j] = out[j], out[i]
	return out
}

// begins are where the suffixes of a row begin, the empty one's too, by rising
// suffixes: they are held against each other whole.
func begins(l []int) []int {
	out := listOf(len(l)+1, func(i int) int { return i })
	slices.SortFunc(out, func(p, q int) int { return slices.Compare(l[p:], l[q:]) })
	return out
}

// modelTurn is the words of the document.
func modelTurn(l []int) []int {
	in := begins(l)
	return listOf(len(in), func(i int) int {
		if in[i] == 0 {
			return -1
		}
		return l[in[i]-1]
	})
}

// modelNext looks up where the suffix behind each one stands.
func modelNext(l []int) []int {
	in := begins(l)
	return listOf(len(in), func(i int) int {
		if in[i] == len(l) {
			return slices.Index(in, 0)
		}
		return slices.Index(in, in[i]+1)
	})
}

// modelBack writes a row turned ahead of rows that are put in order, again and again:
// if it is one, these are the rows that go round, and the one that ends with the end
// is told. Else what comes of it isn't turned into it.
func modelBack(b []int) ([]int, bool) {
	table := make([][]int, len(b))
	for range b {
		for i, number := range b {
			table[i] = slices.Concat([]int{number}, table[i])
		}
		slices.SortFunc(table, slices.Compare)
	}
	for _, row := range table {
		l := row[:len(row)-1]
		whole := row[len(row)-1] == -1 && (len(l) == 0 || slices.Min(l) >= 0)
		if whole && slices.Equal(modelTurn(l), b) {
			return l, true
		}
	}
	return nil, false
}

package order_test

import (
	"cmp"
	"math"
	"slices"
)

// lengths lie about what a digit of a place can hold, and elsewhere.
var lengths = []int{0, 1, 2, 3, 4, 7, 16, 100, 255, 256, 257, 600}

// ends are numbers at the borders of digits and words, out to the ends of int.
var ends = []int{
	math.MinInt, math.MinInt + 1, -1 << 56, -1<<32 - 1, -1 << 32, -1 << 31, -65537, -65536,
	-257, -256, -255, -129, -128, -127, -2, -1, 0, 1, 2, 127, 128, 129, 255, 256, 257, 511,
	512, 65535, 65536, 65537, 1<<20 - 1, 1 << 20, 1<<24 - 1, 1 << 24, 1<<31 - 1, 1 << 31,
	1<<32 - 1, 1 << 32, 1<<32 + 1, 1 << 48, 1<<56 - 1, 1 << 56, math.MaxInt - 1, math.MaxInt,
}

// mixed tells numbers below size that have no pattern, the same ones in each run.
func mixed(seed uint64, size int) func(int) int {
	return func(int) int {
		seed = seed*6364136223846793005 + 1442695040888963407
		return int(seed>>33) % size
	}
}

// listOf is the list of n numbers that way tells.
func listOf(n int, way func(i int) int) []int {
	l := make([]int, n)
	for i := range l {
		l[i] = way(i)
	}
	return l
}

// lists are lists of n numbers of all kinds: those that are the same, that rise and
// fall, few and many different ones, small and great ones, above and below 0.
func lists(n int) [][]int {
	few, many, end, wide := mixed(uint64(n), 3), mixed(uint64(n)+1, 1<<20), mixed(uint64(n)+2, len(ends)), mixed(uint64(n)+3, 1<<31)
	return [][]int{
		listOf(n, func(int) int { return 0 }),
		listOf(n, func(int) int { return math.MinInt }),
		listOf(n, func(i int) int { return i }),
		listOf(n, func(i int) int { return -i }),
		listOf(n, func(i int) int { return i % 2 }),
		listOf(n, func(i int) int { return i/3 - 50 }),
		listOf(n, func(i int) int { return i << 8 }),
		listOf(n, func(i int) int { return i << 55 }),
		listOf(n, func(i int) int { return few(i) }),
		listOf(n, func(i int) int { return few(i) - 1 }),
		listOf(n, func(i int) int { return few(i)<<40 + few(i) }),
		listOf(n, func(i int) int { return many(i) }),
		listOf(n, func(i int) int { return many(i) - 1<<19 }),
		listOf(n, func(i int) int { return ends[end(i)] }),
		listOf(n, func(i int) int { return wide(i)<<33 ^ wide(i)<<8 ^ wide(i) }),
	}
}

// eachList goes over all lists of up to n of some numbers.
func eachList(n int, of []int, visit func(l []int)) {
	var more func(l []int)
	more = func(l []int) {
		visit(l)
		if len(l) == n {
			return
		}
		for _, x := range of {
			more(append(l[:len(l):len(l)], x))
		}
	}
	more(nil)
}

// eachRising goes over all lists of numbers below n that rise.
func eachRising(n int, visit func(l []int)) {
	for in := range 1 << n {
		var l []int
		for i := range n {
			if in>>i%2 == 1 {
				l = append(l, i)
			}
		}
		visit(l)
	}
}

// modelStable sorts places by comparing keys.
func modelStable(keys []int) []int {
	out := listOf(len(keys), func(i int) int { return i })
	slices.SortStableFunc(out, func(p, q int) int { return cmp.Compare(keys[p], keys[q]) })
	return out
}

// modelRanks looks each key up among the different ones.
func modelRanks(keys []int) []int {
	different := slices.Clone(keys)
	slices.Sort(different)
	different = slices.Compact(different)
	return listOf(len(keys), func(i int) int { return slices.Index(different, keys[i]) })
}

// modelPairs looks each pair up among the different ones.
func modelPairs(a, b []int) []int {
	pairs := make([][2]int, len(a))
	for i := range a {
		pairs[i] = [2]int{a[i], b[i]}
	}
	different := slices.Clone(pairs)
	slices.SortFunc(different, func(p, q [2]int) int { return slices.Compare(p[:], q[:]) })
	different = slices.Compact(different)
	return listOf(len(a), func(i int) int { return slices.Index(different, pairs[i]) })
}

// modelPermutes asks whether a list has each number below its length once.
func modelPermutes(p []int) bool {
	in := slices.Clone(p)
	slices.Sort(in)
	return slices.Equal(in, listOf(len(p), func(i int) int { return i }))
}

// modelSet is what is in a or b, and of these what keep says, in order.
func modelSet(a, b []int, keep func(inA, inB bool) bool) []int {
	all := slices.Concat(a, b)
	slices.Sort(all)
	return slices.DeleteFunc(slices.Compact(all), func(x int) bool {
		return !keep(slices.Contains(a, x), slices.Contains(b, x))
	})
}

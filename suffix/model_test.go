package suffix_test

import (
	"math"
	"slices"
)

// lengths have all rests by three, and lie about what a digit can hold, too.
var lengths = []int{0, 1, 2, 3, 4, 5, 6, 7, 8, 9, 10, 11, 12, 13, 14, 26, 27, 28, 81, 82, 83, 99, 100, 101, 255, 256, 257, 258}

// ends are numbers about 0, and out to the ends of int.
var ends = []int{
	math.MinInt, math.MinInt + 1, -1<<32 - 1, -1 << 32, -1 << 31, -257, -256, -2, -1, 0, 1, 2,
	255, 256, 257, 1<<31 - 1, 1 << 31, 1 << 32, 1<<32 + 1, math.MaxInt - 1, math.MaxInt,
}

// mixed tells numbers below size that have no pattern, the same ones in each run.
func mixed(seed uint64, size int) func() int {
	return func() int {
		seed = seed*6364136223846793005 + 1442695040888963407
		return int(seed>>33) % size
	}
}

// listOf is the list of n numbers that way tells.
func listOf(n int, way func(i int) int) []int {
	l := make([]int, n)
	for i := range l {
		l[i] = way(i)
	}
	return l
}

// again is a row in which one part stands again and again.
func again(n int, part ...int) []int {
	return listOf(n, func(i int) int { return part[i%len(part)] })
}

// ones counts the ones of a number.
func ones(number int) int {
	count := 0
	for ; number > 0; number /= 2 {
		count += number % 2
	}
	return count
}

// grown is a row of two numbers that is the one ahead of it and the one ahead of that:
// its suffixes begin alike as far as may be.
func grown(n int) []int {
	a, b := []int{1}, []int{1, 0}
	for len(b) < n {
		a, b = b, slices.Concat(b, a)
	}
	return b[:n]
}

// rows are rows of n numbers of all kinds: those that are the same, that rise and fall,
// in which parts stand again and again, of few and many numbers, small and great ones,
// above and below 0.
func rows(n int) [][]int {
	few, some, many, end := mixed(uint64(n), 2), mixed(uint64(n)+1, 4), mixed(uint64(n)+2, 1<<20), mixed(uint64(n)+3, len(ends))
	return [][]int{
		again(n, 0),
		again(n, math.MinInt),
		again(n, math.MaxInt),
		listOf(n, func(i int) int { return i }),
		listOf(n, func(i int) int { return -i }),
		listOf(n, func(i int) int { return i << 50 }),
		listOf(n, func(i int) int { return i / 2 }),
		listOf(n, func(i int) int { return -i / 3 }),
		again(n, 0, 1),
		again(n, 1, 0),
		again(n, 1, 0, 0),
		again(n, 0, 1, 0),
		again(n, 0, 0, 1),
		again(n, 2, 1, 0),
		again(n, -1, 3, -1, math.MaxInt),
		again(n, 1, 2, 1, 1, 2),
		listOf(n, func(i int) int { return i / max(n-1, 1) }),
		listOf(n, func(i int) int { return -i / max(n-1, 1) }),
		listOf(n, func(i int) int { return (n - i) / max(n, 1) }),
		listOf(n, func(i int) int { return i * (n - 1 - i) }),
		listOf(n, func(i int) int { return ones(i) % 2 }),
		grown(n),
		listOf(n, func(int) int { return few() }),
		listOf(n, func(int) int { return few() - 1 }),
		listOf(n, func(int) int { return some() - 2 }),
		listOf(n, func(int) int { return many() - 1<<19 }),
		listOf(n, func(int) int { return ends[end()] }),
	}
}

// eachList goes over all lists of up to n of some numbers.
func eachList(n int, of []int, visit func(l []int)) {
	var more func(l []int)
	more = func(l []int) {
		visit(l)
		if len(l) == n {
			return
		}
		for _, x := range of {
			more(append(l[:len(l):len(l)], x))
		}
	}
	more(nil)
}

// less is the word of the document, number by number.
func less(a, b []int) bool {
	for i := range min(len(a), len(b)) {
		if a[i] != b[i] {
			return a[i] < b[i]
		}
	}
	return len(a) < len(b)
}

// alike is how many numbers two rows begin with alike.
func alike(a, b []int) int {
	n := 0
	for n < min(len(a), len(b)) && a[n] == b[n] {
		n++
	}
	return n
}

// modelArray sorts places by holding their suffixes against each other.
func modelArray(l []int) []int {
	out := listOf(len(l), func(i int) int { return i })
	slices.SortFunc(out, func(p, q int) int {
		switch {
		case less(l[p:], l[q:]):
			return -1
		case less(l[q:], l[p:]):
			return 1
		}
		return 0
	})
	return out
}

// modelRanks counts the suffixes that are less.
func modelRanks(l []int) []int {
	return listOf(len(l), func(i int) int {
		count := 0
		for j := range l {
			if less(l[j:], l[i:]) {
				count++
			}
		}
		return count
	})
}

// modelCommon holds each suffix against the one ahead.
func modelCommon(l, order []int) []int {
	return listOf(len(order), func(i int) int {
		if i == 0 {
			return 0
		}
		return alike(l[order[i-1]:], l[order[i]:])
	})
}

// modelFind goes over all suffixes.
func modelFind(l, p []int) (from, to int) {
	begin := 0
	for i := range l {
		if less(l[i:], p) {
			from++
		}
		if alike(l[i:], p) == len(p) {
			begin++
		}
	}
	return from, from + begin
}

// inOrder asks, without holding long suffixes against each other, whether places are
// those of a row by rising suffixes: each is there, and each two side by side differ
// in their first numbers or go on as two that are in order.
func inOrder(l, order []int) bool {
	rank := make([]int, len(l)+1)
	for i, place := range order {
		if place < 0 || place >= len(l) || rank[place] != 0 {
			return false
		}
		rank[place] = i + 1
	}
	for i := 1; i < len(order); i++ {
		p, q := order[i-1], order[i]
		if l[p] > l[q] || l[p] == l[q] && rank[p+1] >= rank[q+1] {
			return false
		}
	}
	return len(order) == len(l)
}

package suffix_test

import (
	"math"
	"slices"
	"testing"

	"topiary/suffix"
)

func checkFind(t *testing.T, l, in, p []int) {
	t.Helper()
	from, to := suffix.Find(l, in, p)
	if wantFrom, wantTo := modelFind(l, p); from != wantFrom || to != wantTo {
		t.Fatalf("Find(%v.., %v..) of %d and %d: %d, %d, want %d, %d", short(l), short(p), len(l), len(p), from, to, wantFrom, wantTo)
	}
}

// looked are rows to be looked for in l: those that stand there, at its start, its end
// and between, the whole one, such ones with another number or one more, the empty one,
// and those that are less and greater than all.
func looked(l []int) [][]int {
	n := len(l)
	out := [][]int{nil, {}, l, {math.MinInt}, {math.MaxInt}, make([]int, n+1), slices.Concat(l, l), slices.Concat(l, []int{math.MinInt})}
	for _, x := range ends {
		out = append(out, []int{x}, []int{x, x}, slices.Concat(l, []int{x}))
	}
	for _, from := range []int{0, 1, n / 3, n / 2, n - 2, n - 1} {
		for _, long := range []int{1, 2, 3, n / 2, n} {
			part := slices.Clone(l[min(max(from, 0), n):])
			part = part[:min(long, len(part))]
			out = append(out, part, slices.Concat(part, []int{0}), slices.Concat(part, []int{math.MaxInt}))
			for _, other := range []int{-1, 1} {
				changed := slices.Clone(part)
				if len(changed) > 0 {
					changed[len(changed)-1] += other
				}
				out = append(out, changed)
			}
		}
	}
	return out
}

func TestP7_3Find(t *testing.T) {
	for _, n := range lengths {
		for _, l := range rows(n) {
			in := suffix.Array(l)
			for _, p := range looked(l) {
				checkFind(t, l, in, p)
			}
		}
	}
}

func TestP7_3FindOfAllShortRows(t *testing.T) {
	eachList(7, []int{0, 1}, func(l []int) {
		in := modelArray(l)
		eachList(8, []int{0, 1}, func(p []int) { checkFind(t, l, in, p) })
	})
	eachList(5, []int{0, 1, 2}, func(l []int) {
		in := modelArray(l)
		eachList(4, []int{-1, 0, 1, 2, 3}, func(p []int) { checkFind(t, l, in, p) })
	})
	eachList(3, ends, func(p []int) { checkFind(t, ends, modelArray(ends), p) })
}

func TestP7_3FindByHand(t *testing.T) {
	l, in := []int{2, 1, 3, 1, 3, 1}, []int{5, 3, 1, 0, 4, 2}
	for _, c := range []struct {
		p        []int
		from, to int
	}{
		{nil, 0, 6},
		{[]int{1}, 0, 3},
		{[]int{1, 3, 1}, 1, 3},
		{[]int{1, 3, 1, 3}, 2, 3},
		{[]int{3, 1}, 4, 6},
		{[]int{2, 1, 3, 1, 3, 1}, 3, 4},
		{[]int{2, 1, 3, 1, 3, 1, 0}, 4, 4},
		{[]int{1, 0}, 1, 1},
		{[]int{1, 4}, 3, 3},
		{[]int{0}, 0, 0},
		{[]int{4}, 6, 6},
		{[]int{math.MinInt}, 0, 0},
		{[]int{math.MaxInt}, 6, 6},
	} {
		if from, to := suffix.Find(l, in, c.p); from != c.from || to != c.to {
			t.Errorf("Find(%v): %d, %d, want %d, %d", c.p, from, to, c.from, c.to)
		}
	}
}

// Of any list at all as the order, the two numbers are up to its length, in order.
func TestP7_3FindOfOtherOrders(t *testing.T) {
	check := func(l, in, p []int) {
		from, to := suffix.Find(l, in, p)
		if from < 0 || from > to || to > len(in) {
			t.Fatalf("Find(%v.., %v.., %v..): %d, %d", short(l), short(in), short(p), from, to)
		}
	}
	eachList(3, []int{0, 1}, func(l []int) {
		eachList(4, []int{math.MinInt, -1, 0, 1, 2, 3, 4, math.MaxInt}, func(in []int) {
			eachList(2, []int{-1, 0, 1, 2}, func(p []int) { check(l, in, p) })
		})
	})
	for _, n := range lengths {
		for _, l := range rows(n) {
			for _, in := range slices.Concat(rows(n), rows(n+1), rows(n/2), [][]int{ends}) {
				for _, p := range [][]int{nil, l, {0}, {1, 0}, {math.MinInt}, {math.MaxInt}} {
					check(l, in, p)
				}
			}
		}
	}
}

func TestP7_4ThoseWithOneBeginStandSideBySide(t *testing.T) {
	for _, n := range []int{1, 2, 3, 9, 28, 83} {
		for _, l := range rows(n) {
			in := suffix.Array(l)
			for _, p := range looked(l) {
				from, to := suffix.Find(l, in, p)
				for i, place := range in {
					if begins := alike(l[place:], p) == len(p); begins != (i >= from && i < to) {
						t.Fatalf("Find(%v.., %v..): %d, %d, but the suffix at %d begins so: %v", short(l), short(p), from, to, place, begins)
					}
				}
			}
		}
	}
}

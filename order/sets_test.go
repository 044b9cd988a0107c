package order_test

import (
	"math"
	"slices"
	"testing"

	"topiary/order"
)

func TestP6_3Rises(t *testing.T) {
	check := func(l []int) {
		want := true
		for i := 1; i < len(l); i++ {
			want = want && l[i-1] < l[i]
		}
		if got := order.Rises(l); got != want {
			t.Fatalf("Rises(%v): %v", l, got)
		}
	}
	eachList(6, []int{-1, 0, 1, 2}, check)
	eachList(3, ends, check)
	for _, n := range lengths {
		for _, l := range lists(n) {
			check(l)
		}
		for at := range n {
			l := listOf(n, func(i int) int { return 2 * i })
			l[at] += 2
			check(l)
			l[at] -= 4
			check(l)
			l[at]++
			check(l)
		}
	}
	for l, want := range map[string]bool{"": true, "a": true, "abc": true, "abbc": false, "aa": false, "cba": false, "acb": false, "bac": false} {
		if got := order.Rises(listOf(len(l), func(i int) int { return int(l[i]) })); got != want {
			t.Errorf("Rises of %s: %v", l, got)
		}
	}
}

// sets are the calls, each with what says whether a number is kept.
var sets = []struct {
	name string
	call func(a, b []int) []int
	keep func(inA, inB bool) bool
}{
	{"Merge", order.Merge, func(inA, inB bool) bool { return inA || inB }},
	{"Both", order.Both, func(inA, inB bool) bool { return inA && inB }},
	{"Without", order.Without, func(inA, inB bool) bool { return inA && !inB }},
}

func checkSets(t *testing.T, a, b []int) {
	t.Helper()
	for _, set := range sets {
		got, want := set.call(a, b), modelSet(a, b, set.keep)
		if !slices.Equal(got, want) || !order.Rises(got) {
			t.Fatalf("%s(%v.., %v..) of %d and %d: %v.., want %v..", set.name, short(a), short(b), len(a), len(b), short(got), short(want))
		}
	}
}

func TestP6_3SetsOfAllShortLists(t *testing.T) {
	eachRising(7, func(a []int) {
		eachRising(7, func(b []int) { checkSets(t, a, b) })
	})
}

// rising are lists that rise: no number, one, those at the ends of int, those that
// lie beside each other and far from each other.
func rising() [][]int {
	return [][]int{
		nil, {}, {0}, {-1}, {math.MinInt}, {math.MaxInt}, {math.MinInt, math.MaxInt}, ends,
		listOf(100, func(i int) int { return i }),
		listOf(100, func(i int) int { return 2 * i }),
		listOf(100, func(i int) int { return 2*i + 1 }),
		listOf(300, func(i int) int { return 3*i - 200 }),
		listOf(50, func(i int) int { return i - 200 }),
		listOf(50, func(i int) int { return i + 1000 }),
		listOf(700, func(i int) int { return i*i - 9 }),
	}
}

func TestP6_3Sets(t *testing.T) {
	for _, a := range rising() {
		for _, b := range rising() {
			checkSets(t, a, b)
		}
	}
}

func TestP6_3SetsOfLongLists(t *testing.T) {
	const n = 300000
	all := listOf(n, func(i int) int { return i })
	even := listOf(n/2, func(i int) int { return 2 * i })
	odd := listOf(n/2, func(i int) int { return 2*i + 1 })
	for what, ok := range map[string]bool{
		"Merge":        slices.Equal(order.Merge(even, odd), all),
		"Merge, in":    slices.Equal(order.Merge(even, all), all),
		"Both":         slices.Equal(order.Both(even, all), even),
		"Both, none":   len(order.Both(even, odd)) == 0,
		"Without":      slices.Equal(order.Without(all, even), odd),
		"Without, all": len(order.Without(even, all)) == 0,
	} {
		if !ok {
			t.Error(what)
		}
	}
}

// Lists that do not rise have some answer, twice the same one, and are left as
// they are.
func TestP6_3SetsOfListsThatDoNotRise(t *testing.T) {
	check := func(a, b []int) {
		wasA, wasB := slices.Clone(a), slices.Clone(b)
		for _, set := range sets {
			if first, again := set.call(a, b), set.call(a, b); !slices.Equal(first, again) {
				t.Fatalf("%s(%v, %v): %v, then %v", set.name, a, b, first, again)
			}
		}
		if !slices.Equal(a, wasA) || !slices.Equal(b, wasB) {
			t.Fatalf("%v and %v are changed", wasA, wasB)
		}
	}
	eachList(4, []int{0, 1, 2}, func(a []int) {
		eachList(4, []int{0, 1, 2}, func(b []int) { check(a, b) })
	})
	for _, n := range lengths {
		for _, a := range lists(n) {
			for _, b := range lists(min(n, 40)) {
				check(a, b)
				check(b, a)
			}
		}
	}
}

func TestMemoryOfSets(t *testing.T) {
	for _, set := range sets {
		a, b := []int{1, 3, 5, 7}, []int{3, 4, 7}
		for _, lists := range [][2][]int{{a, b}, {a, nil}, {nil, a}, {a, a}} {
			got := set.call(lists[0], lists[1])
			want := slices.Clone(got)
			clear(got[:cap(got)])
			if !slices.Equal(a, []int{1, 3, 5, 7}) || !slices.Equal(b, []int{3, 4, 7}) {
				t.Fatalf("%s shares memory with what was handed in", set.name)
			}
			if again := set.call(lists[0], lists[1]); !slices.Equal(again, want) {
				t.Errorf("%s: %v, then %v", set.name, want, again)
			}
		}
	}
}

package order_test

import (
	"math"
	"slices"
	"testing"

	"topiary/api"
	"topiary/order"
)

const maxSize = 1 << 20

// short is what a failing test shows of a list.
func short(l []int) []int { return l[:min(len(l), 20)] }

func checkStable(t *testing.T, keys []int, size int) {
	t.Helper()
	got, err := order.Stable(keys, size)
	if want := modelStable(keys); err != api.OK || !slices.Equal(got, want) {
		t.Fatalf("Stable(%v.., %d) of %d: %v.. %d, want %v..", short(keys), size, len(keys), short(got), err, short(want))
	}
}

func checkRefused(t *testing.T, keys []int, size int) {
	t.Helper()
	if got, err := order.Stable(keys, size); err != api.ErrArg || got != nil {
		t.Fatalf("Stable(%v.., %d) of %d: %v.. %d", short(keys), size, len(keys), short(got), err)
	}
}

func TestP6_1Stable(t *testing.T) {
	for _, size := range []int{1, 2, 3, 9, 100, 255, 256, 257, 511, 512, 65535, 65536, 65537, maxSize - 1, maxSize} {
		for _, n := range lengths {
			any, few := mixed(uint64(size+n), size), mixed(uint64(size), 3)
			checkStable(t, listOf(n, func(int) int { return 0 }), size)
			checkStable(t, listOf(n, func(int) int { return size - 1 }), size)
			checkStable(t, listOf(n, func(i int) int { return i % size }), size)
			checkStable(t, listOf(n, func(i int) int { return size - 1 - i%size }), size)
			checkStable(t, listOf(n, func(i int) int { return i % 2 * (size - 1) }), size)
			checkStable(t, listOf(n, func(i int) int { return any(i) }), size)
			checkStable(t, listOf(n, func(i int) int { return few(i) * (size - 1) / 2 }), size)
		}
	}
}

func TestP6_1StableOfAllShortKeys(t *testing.T) {
	eachList(7, []int{0, 1, 2}, func(keys []int) { checkStable(t, keys, 3) })
	eachList(5, []int{0, 1, 255, 256, 65535, 65536, maxSize - 1}, func(keys []int) { checkStable(t, keys, maxSize) })
}

func TestP6_1StableOfManyKeys(t *testing.T) {
	any := mixed(7, maxSize)
	checkStable(t, listOf(300000, func(i int) int { return any(i) }), maxSize)
	checkStable(t, listOf(maxSize+5, func(i int) int { return (maxSize + 5 - i) % maxSize }), maxSize)
	checkStable(t, listOf(300000, func(i int) int { return any(i) % 2 }), 2)
}

func TestP6_1StableRefusesSizes(t *testing.T) {
	for _, size := range []int{
		math.MinInt, math.MinInt + 1, -maxSize, -1 << 32, -2, -1, 0,
		maxSize + 1, maxSize + 2, 1 << 21, 1 << 32, 1<<32 + 1, math.MaxInt - 1, math.MaxInt,
	} {
		checkRefused(t, nil, size)
		checkRefused(t, []int{0}, size)
		checkRefused(t, []int{0, 1, 0}, size)
		checkRefused(t, []int{-1}, size)
	}
	checkStable(t, nil, 1)
	checkStable(t, []int{}, maxSize)
}

func TestP6_1StableRefusesWhatIsNoKey(t *testing.T) {
	for _, size := range []int{1, 2, 3, 256, 1000, maxSize - 1, maxSize} {
		for _, key := range slices.Concat(ends, []int{-size, size - 1, size, size + 1}) {
			for at := range 4 {
				keys := make([]int, 4)
				keys[at] = key
				if key >= 0 && key < size {
					checkStable(t, keys, size)
				} else {
					checkRefused(t, keys, size)
				}
			}
		}
	}
}

func checkRanks(t *testing.T, keys []int) {
	t.Helper()
	if got, want := order.Ranks(keys), modelRanks(keys); !slices.Equal(got, want) {
		t.Fatalf("Ranks(%v..) of %d: %v.., want %v..", short(keys), len(keys), short(got), short(want))
	}
}

func TestP6_1Ranks(t *testing.T) {
	for _, n := range lengths {
		for _, keys := range lists(n) {
			checkRanks(t, keys)
		}
	}
	checkRanks(t, nil)
	checkRanks(t, ends)
	down := slices.Clone(ends)
	slices.Reverse(down)
	checkRanks(t, down)
	checkRanks(t, slices.Concat(down, ends, down))
}

func TestP6_1RanksOfAllShortKeys(t *testing.T) {
	eachList(6, []int{-1, 0, 1, 2}, func(keys []int) { checkRanks(t, keys) })
	eachList(4, []int{math.MinInt, -1 << 32, -1, 0, 1 << 8, 1<<63 - 1 - 255, math.MaxInt}, func(keys []int) { checkRanks(t, keys) })
	for _, a := range ends {
		for _, b := range ends {
			checkRanks(t, []int{a, b})
			checkRanks(t, []int{a, b, a})
		}
	}
}

func TestP6_1RanksOfManyKeys(t *testing.T) {
	const n = 200001
	got := order.Ranks(listOf(n, func(i int) int { return (i*7919%n - n/2) << 40 }))
	for i, rank := range got {
		if rank != i*7919%n {
			t.Fatalf("rank at %d: %d, want %d", i, rank, i*7919%n)
		}
	}
}

func checkPairs(t *testing.T, a, b []int) {
	t.Helper()
	got, err := order.Pairs(a, b)
	if want := modelPairs(a, b); err != api.OK || !slices.Equal(got, want) {
		t.Fatalf("Pairs(%v.., %v..) of %d: %v.. %d, want %v..", short(a), short(b), len(a), short(got), err, short(want))
	}
}

func TestP6_1Pairs(t *testing.T) {
	for _, n := range lengths {
		for _, a := range lists(n) {
			for _, b := range lists(n) {
				checkPairs(t, a, b)
			}
		}
	}
	checkPairs(t, nil, nil)
	checkPairs(t, nil, []int{})
}

func TestP6_1PairsOfAllShortLists(t *testing.T) {
	some := []int{math.MinInt, 0, 1 << 9}
	eachList(4, some, func(a []int) {
		eachList(4, some, func(b []int) {
			if len(a) == len(b) {
				checkPairs(t, a, b)
			}
		})
	})
	for _, a := range ends {
		for _, b := range ends {
			checkPairs(t, []int{a, b, a, b, a}, []int{b, a, a, b, b})
			checkPairs(t, []int{7, 7, 7}, []int{a, b, a})
			checkPairs(t, []int{a, b, a}, []int{7, 7, 7})
		}
	}
}

func TestP6_1PairsRefusesLengths(t *testing.T) {
	for _, n := range lengths {
		for _, m := range lengths {
			if got, err := order.Pairs(make([]int, n), make([]int, m)); n != m && (err != api.ErrArg || got != nil) {
				t.Errorf("Pairs of %d and %d: %v.. %d", n, m, short(got), err)
			}
		}
	}
	if got, err := order.Pairs(nil, []int{3}); err != api.ErrArg || got != nil {
		t.Error("Pairs of nil and one", got, err)
	}
	if got, err := order.Pairs([]int{3}, nil); err != api.ErrArg || got != nil {
		t.Error("Pairs of one and nil", got, err)
	}
}

func checkInverse(t *testing.T, p []int) {
	t.Helper()
	got, err := order.Inverse(p)
	if !modelPermutes(p) {
		if err != api.ErrArg || got != nil {
			t.Fatalf("Inverse(%v..) of %d: %v.. %d, want an error", short(p), len(p), short(got), err)
		}
		return
	}
	if err != api.OK || len(got) != len(p) {
		t.Fatalf("Inverse(%v..) of %d: %v.. %d", short(p), len(p), short(got), err)
	}
	for i, to := range p {
		if got[to] != i {
			t.Fatalf("Inverse(%v..) of %d: %v.., at %d want %d", short(p), len(p), short(got), to, i)
		}
	}
}

func TestP6_2InverseOfAllShortLists(t *testing.T) {
	eachList(6, []int{-1, 0, 1, 2, 3, 4, 5, 6}, func(p []int) { checkInverse(t, p) })
}

func TestP6_2Inverse(t *testing.T) {
	for _, n := range lengths {
		checkInverse(t, listOf(n, func(i int) int { return i }))
		checkInverse(t, listOf(n, func(i int) int { return n - 1 - i }))
		checkInverse(t, listOf(n, func(i int) int { return (i*7919 + 1) % n }))
		checkInverse(t, listOf(n, func(i int) int { return i + 1 }))
		checkInverse(t, listOf(n, func(i int) int { return i - 1 }))
		checkInverse(t, listOf(n, func(i int) int { return i / 2 * 2 }))
		if n == 0 {
			continue
		}
		for _, wrong := range slices.Concat(ends, []int{n, n + 1, -n, n - 1}) {
			p := listOf(n, func(i int) int { return i })
			p[n/2] = wrong
			checkInverse(t, p)
		}
	}
	if got, err := order.Inverse(nil); err != api.OK || len(got) != 0 {
		t.Error("Inverse(nil):", got, err)
	}
}

func TestP6_2InverseTwice(t *testing.T) {
	p := listOf(100003, func(i int) int { return i * 7919 % 100003 })
	q, err := order.Inverse(p)
	if err != api.OK {
		t.Fatal(err)
	}
	if again, err := order.Inverse(q); err != api.OK || !slices.Equal(again, p) {
		t.Error("turned twice it is another list", err)
	}
}

func TestP6_4RanksOfWhatIsInOrder(t *testing.T) {
	for _, n := range lengths {
		for _, keys := range lists(n) {
			slices.Sort(keys)
			if got := order.Ranks(keys); !slices.IsSorted(got) || len(got) != n {
				t.Fatalf("Ranks(%v..): %v..", short(keys), short(got))
			}
		}
	}
}

func TestP6_4SameNumberSameRank(t *testing.T) {
	for _, n := range lengths {
		for _, keys := range lists(n) {
			got := order.Ranks(slices.Concat(keys, keys))
			if !slices.Equal(got[:n], got[n:]) {
				t.Fatalf("Ranks of %v.. twice: %v..", short(keys), short(got))
			}
			for i := range n {
				for j := range min(n, 30) {
					if (keys[i] == keys[j]) != (got[i] == got[j]) {
						t.Fatalf("ranks of %d and %d: %d and %d", keys[i], keys[j], got[i], got[j])
					}
				}
			}
		}
	}
}

func TestMemoryOfPlaces(t *testing.T) {
	a, b, p := []int{5, 300, 5, 0}, []int{2, 1, 2, 9}, []int{2, 0, 3, 1}
	calls := []func() []int{
		func() []int { l, _ := order.Stable(a, 301); return l },
		func() []int { l, _ := order.Stable([]int{0, 0, 0}, 1); return l },
		func() []int { return order.Ranks(a) },
		func() []int { l, _ := order.Pairs(a, b); return l },
		func() []int { l, _ := order.Inverse(p); return l },
	}
	for i, call := range calls {
		first := call()
		want := slices.Clone(first)
		if !slices.Equal(a, []int{5, 300, 5, 0}) || !slices.Equal(b, []int{2, 1, 2, 9}) || !slices.Equal(p, []int{2, 0, 3, 1}) {
			t.Fatalf("call %d changed what was handed in", i)
		}
		clear(first[:cap(first)])
		if again := call(); !slices.Equal(again, want) {
			t.Errorf("call %d: %v, then %v", i, want, again)
		}
	}
}

func TestExamples(t *testing.T) {
	if got, err := order.Stable([]int{2, 0, 2, 1}, 3); err != api.OK || !slices.Equal(got, []int{1, 3, 0, 2}) {
		t.Error("Stable", got, err)
	}
	if got := order.Ranks([]int{7, 5, 7, 9}); !slices.Equal(got, []int{1, 0, 1, 2}) {
		t.Error("Ranks", got)
	}
	if got, err := order.Pairs([]int{1, 0, 1}, []int{4, 9, 3}); err != api.OK || !slices.Equal(got, []int{2, 0, 1}) {
		t.Error("Pairs", got, err)
	}
}

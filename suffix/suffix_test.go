package suffix_test

import (
	"math"
	"slices"
	"testing"

	"topiary/api"
	"topiary/suffix"
)

// short is what a failing test shows of a list.
func short(l []int) []int { return l[:min(len(l), 20)] }

func checkOrder(t *testing.T, l []int) {
	t.Helper()
	if got, want := suffix.Array(l), modelArray(l); !slices.Equal(got, want) {
		t.Fatalf("Array(%v..) of %d: %v.., want %v..", short(l), len(l), short(got), short(want))
	}
	if got, want := suffix.Ranks(l), modelRanks(l); !slices.Equal(got, want) {
		t.Fatalf("Ranks(%v..) of %d: %v.., want %v..", short(l), len(l), short(got), short(want))
	}
}

func TestP7_1Order(t *testing.T) {
	for _, n := range lengths {
		for _, l := range rows(n) {
			checkOrder(t, l)
		}
	}
	checkOrder(t, nil)
	checkOrder(t, []int{})
	checkOrder(t, ends)
	down := slices.Clone(ends)
	slices.Reverse(down)
	checkOrder(t, down)
	checkOrder(t, slices.Concat(down, ends, down))
}

func TestP7_1OrderOfAllShortRows(t *testing.T) {
	eachList(12, []int{0, 1}, func(l []int) { checkOrder(t, l) })
	eachList(8, []int{-1, 0, 1}, func(l []int) { checkOrder(t, l) })
	eachList(5, []int{math.MinInt, -1, 0, 1 << 40, math.MaxInt}, func(l []int) { checkOrder(t, l) })
	for _, a := range ends {
		for _, b := range ends {
			checkOrder(t, []int{a, b})
			checkOrder(t, []int{a, b, a, b, b})
		}
	}
}

// What is less is told by hand here, as a model may be wrong as well.
func TestP7_1OrderByHand(t *testing.T) {
	for _, c := range []struct{ l, order, ranks []int }{
		{nil, nil, nil},
		{[]int{7}, []int{0}, []int{0}},
		{[]int{3, 3}, []int{1, 0}, []int{1, 0}},
		{[]int{1, 2}, []int{0, 1}, []int{0, 1}},
		{[]int{2, 1}, []int{1, 0}, []int{1, 0}},
		{[]int{5, 5, 5}, []int{2, 1, 0}, []int{2, 1, 0}},
		{[]int{0, -1, 0}, []int{1, 2, 0}, []int{2, 0, 1}},
		{[]int{math.MaxInt, math.MinInt, math.MaxInt, math.MinInt}, []int{3, 1, 2, 0}, []int{3, 1, 2, 0}},
		{[]int{4, 1, 4, 1, 5}, []int{1, 3, 0, 2, 4}, []int{2, 0, 3, 1, 4}},
	} {
		if got := suffix.Array(c.l); !slices.Equal(got, c.order) {
			t.Errorf("Array(%v): %v, want %v", c.l, got, c.order)
		}
		if got := suffix.Ranks(c.l); !slices.Equal(got, c.ranks) {
			t.Errorf("Ranks(%v): %v, want %v", c.l, got, c.ranks)
		}
	}
}

func TestP7_1OrderOfManyNumbers(t *testing.T) {
	any, few := mixed(5, 1<<30), mixed(6, 2)
	for _, n := range []int{65535, 65536, 100001} {
		for what, l := range [][]int{
			again(n, 9),
			again(n, 1, 0, 2, 1, 0),
			listOf(n, func(i int) int { return i }),
			listOf(n, func(i int) int { return -i / 2 }),
			listOf(n, func(i int) int { return ones(i) % 2 }),
			listOf(n, func(int) int { return few() }),
			listOf(n, func(int) int { return any() << 20 }),
			grown(n),
		} {
			if !inOrder(l, suffix.Array(l)) {
				t.Errorf("row %d of %d is not in order", what, n)
			}
		}
	}
}

// More numbers stand there than order.Stable knows.
func TestP7_1OrderOfMoreNumbersThanKeys(t *testing.T) {
	n := 1<<20 + 1<<19 + 3
	l := listOf(n, func(i int) int { return (n - i) % (1<<20 + 1<<18) })
	if in := suffix.Array(l); !inOrder(l, in) {
		t.Error("not in order")
	}
}

func checkCommon(t *testing.T, l []int) {
	t.Helper()
	in := modelArray(l)
	got, err := suffix.Common(l, in)
	if want := modelCommon(l, in); err != api.OK || !slices.Equal(got, want) {
		t.Fatalf("Common(%v..) of %d: %v.. %d, want %v..", short(l), len(l), short(got), err, short(want))
	}
}

func checkRefused(t *testing.T, l, in []int) {
	t.Helper()
	if got, err := suffix.Common(l, in); err != api.ErrArg || got != nil {
		t.Fatalf("Common(%v.., %v..) of %d and %d: %v.. %d", short(l), short(in), len(l), len(in), short(got), err)
	}
}

func TestP7_2Common(t *testing.T) {
	for _, n := range lengths {
		for _, l := range rows(n) {
			checkCommon(t, l)
		}
	}
	checkCommon(t, nil)
	checkCommon(t, ends)
	eachList(11, []int{0, 1}, func(l []int) { checkCommon(t, l) })
	eachList(7, []int{math.MinInt, 0, math.MaxInt}, func(l []int) { checkCommon(t, l) })
}

func TestP7_2CommonOfNothing(t *testing.T) {
	for _, l := range [][]int{nil, {}} {
		for _, in := range [][]int{nil, {}} {
			if got, err := suffix.Common(l, in); err != api.OK || len(got) != 0 {
				t.Error(got, err)
			}
		}
	}
	checkRefused(t, nil, []int{0})
	checkRefused(t, []int{0}, nil)
	checkRefused(t, []int{0}, []int{})
}

func TestP7_2CommonOfManyNumbers(t *testing.T) {
	const n = 200000
	got, err := suffix.Common(again(n, -4), listOf(n, func(i int) int { return n - 1 - i }))
	if err != api.OK || !slices.Equal(got, listOf(n, func(i int) int { return i })) {
		t.Errorf("the same number: %v.. %d", short(got), err)
	}
	got, err = suffix.Common(listOf(n, func(i int) int { return i }), listOf(n, func(i int) int { return i }))
	if err != api.OK || !slices.Equal(got, make([]int, n)) {
		t.Errorf("numbers that rise: %v.. %d", short(got), err)
	}
}

func TestP7_2CommonRefusesOrders(t *testing.T) {
	for _, n := range lengths[1:] {
		for _, l := range rows(n) {
			in := suffix.Array(l)
			checkRefused(t, l, in[:n-1])
			checkRefused(t, l, in[1:])
			checkRefused(t, l, nil)
			checkRefused(t, l, slices.Concat(in, []int{n}))
			checkRefused(t, l, slices.Concat(in, []int{0}))
			checkRefused(t, l, slices.Concat([]int{n}, in))
			for _, i := range []int{0, n / 3, n / 2, n - 1} {
				for _, wrong := range []int{in[i] + 1, in[i] - 1, -1, n, n + 1, in[(i+1)%n], math.MinInt, math.MaxInt} {
					other := slices.Clone(in)
					other[i] = wrong
					if wrong != in[i] {
						checkRefused(t, l, other)
					}
				}
				for _, j := range []int{0, n / 2, n - 1, (i + 1) % n} {
					other := slices.Clone(in)
					other[i], other[j] = other[j], other[i]
					if i != j {
						checkRefused(t, l, other)
					}
				}
			}
		}
	}
}

func TestP7_2CommonRefusesAllOtherShortOrders(t *testing.T) {
	eachList(4, []int{0, 1}, func(l []int) {
		right := modelArray(l)
		eachList(5, []int{-1, 0, 1, 2, 3, 4}, func(in []int) {
			if !slices.Equal(in, right) {
				checkRefused(t, l, in)
			}
		})
	})
}

func TestP7_4SuffixesAreUnlike(t *testing.T) {
	for _, n := range lengths {
		for _, l := range rows(n) {
			in, ranks := suffix.Array(l), suffix.Ranks(l)
			if len(in) != n || len(ranks) != n {
				t.Fatalf("%d places and %d ranks of %d", len(in), len(ranks), n)
			}
			for i, place := range in {
				if ranks[place] != i {
					t.Fatalf("%v..: the suffix at %d has the rank %d and stands at %d", short(l), place, ranks[place], i)
				}
			}
		}
	}
}

func TestMemory(t *testing.T) {
	l := []int{2, 1, 3, 1, 3, 1}
	distinct := []int{2, 1, 3}
	in := suffix.Array(l)
	calls := []func() []int{
		func() []int { return suffix.Array(l) },
		func() []int { return suffix.Array(distinct) },
		func() []int { return suffix.Ranks(l) },
		func() []int { return suffix.Ranks(distinct) },
		func() []int { common, _ := suffix.Common(l, in); return common },
		func() []int { from, to := suffix.Find(l, in, l[1:3]); return []int{from, to} },
	}
	for i, call := range calls {
		first := call()
		want := slices.Clone(first)
		clear(first[:cap(first)])
		if !slices.Equal(l, []int{2, 1, 3, 1, 3, 1}) || !slices.Equal(distinct, []int{2, 1, 3}) || !slices.Equal(in, []int{5, 3, 1, 0, 4, 2}) {
			t.Fatalf("call %d changed what was handed in", i)
		}
		if again := call(); !slices.Equal(again, want) {
			t.Errorf("call %d: %v, then %v", i, want, again)
		}
	}
}

func TestExamples(t *testing.T) {
	l := []int{2, 1, 3, 1, 3, 1}
	in := suffix.Array(l)
	if !slices.Equal(in, []int{5, 3, 1, 0, 4, 2}) {
		t.Error("Array", in)
	}
	if got, err := suffix.Common(l, in); err != api.OK || !slices.Equal(got, []int{0, 1, 3, 0, 0, 2}) {
		t.Error("Common", got, err)
	}
	if from, to := suffix.Find(l, in, []int{1, 3}); from != 1 || to != 3 {
		t.Error("Find", from, to)
	}
}

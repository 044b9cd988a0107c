package turned_test

import (
	"math"
	"slices"
	"testing"

	"topiary/api"
	"topiary/turned"
)

// short is what a failing test shows of a list.
func short(l []int) []int { return l[:min(len(l), 20)] }

func checkTurn(t *testing.T, l []int) {
	t.Helper()
	if got, err := turned.Turn(l); err != api.OK || !slices.Equal(got, modelTurn(l)) {
		t.Fatalf("Turn(%v..) of %d: %v.. %d, want %v..", short(l), len(l), short(got), err, short(modelTurn(l)))
	}
}

func checkNotTurned(t *testing.T, l []int) {
	t.Helper()
	if got, err := turned.Turn(l); err != api.ErrArg || got != nil {
		t.Fatalf("Turn(%v..) of %d: %v.. %d", short(l), len(l), short(got), err)
	}
}

// checkBack holds Back and Next against the row whose b is turned.
func checkBack(t *testing.T, b, l []int) {
	t.Helper()
	if got, err := turned.Back(b); err != api.OK || !slices.Equal(got, l) {
		t.Fatalf("Back(%v..) of %d: %v.. %d, want %v..", short(b), len(b), short(got), err, short(l))
	}
	if got, err := turned.Next(b); err != api.OK || !slices.Equal(got, modelNext(l)) {
		t.Fatalf("Next(%v..) of %d: %v.. %d, want %v..", short(b), len(b), short(got), err, short(modelNext(l)))
	}
}

func checkRefused(t *testing.T, b []int) {
	t.Helper()
	if got, err := turned.Back(b); err != api.ErrForm || got != nil {
		t.Fatalf("Back(%v..) of %d: %v.. %d", short(b), len(b), short(got), err)
	}
	if got, err := turned.Next(b); err != api.ErrForm || got != nil {
		t.Fatalf("Next(%v..) of %d: %v.. %d", short(b), len(b), short(got), err)
	}
}

// checkEither holds Back and Next of any row at all against the model.
func checkEither(t *testing.T, b []int) {
	t.Helper()
	if l, ok := modelBack(b); ok {
		checkBack(t, b, l)
	} else {
		checkRefused(t, b)
	}
}

// byHand are rows, what they are turned into, and what is next: a model may be wrong
// as well.
var byHand = []struct{ l, b, next []int }{
	{nil, []int{-1}, []int{0}},
	{[]int{0}, []int{0, -1}, []int{1, 0}},
	{[]int{math.MaxInt}, []int{math.MaxInt, -1}, []int{1, 0}},
	{[]int{5, 5}, []int{5, 5, -1}, []int{2, 0, 1}},
	{[]int{1, 2}, []int{2, -1, 1}, []int{1, 2, 0}},
	{[]int{2, 1}, []int{1, 2, -1}, []int{2, 0, 1}},
	{[]int{0, math.MaxInt, 0}, []int{0, math.MaxInt, -1, 0}, []int{2, 0, 3, 1}},
	{[]int{4, 4, 4}, []int{4, 4, 4, -1}, []int{3, 0, 1, 2}},
	{[]int{1, 0, 1, 0}, []int{0, 1, 1, 0, -1}, []int{4, 0, 3, 1, 2}},
	{[]int{2, 1, 3, 1, 3, 1}, []int{1, 3, 3, 2, -1, 1, 1}, []int{4, 0, 5, 6, 3, 1, 2}},
}

func TestByHand(t *testing.T) {
	for _, c := range byHand {
		if got, err := turned.Turn(c.l); err != api.OK || !slices.Equal(got, c.b) {
			t.Errorf("Turn(%v): %v %d, want %v", c.l, got, err, c.b)
		}
		if got, err := turned.Back(c.b); err != api.OK || !slices.Equal(got, c.l) {
			t.Errorf("Back(%v): %v %d, want %v", c.b, got, err, c.l)
		}
		if got, err := turned.Next(c.b); err != api.OK || !slices.Equal(got, c.next) {
			t.Errorf("Next(%v): %v %d, want %v", c.b, got, err, c.next)
		}
	}
}

func TestP8_1Turned(t *testing.T) {
	for _, n := range lengths {
		for _, l := range rows(n) {
			checkTurn(t, l)
		}
	}
	checkTurn(t, nil)
	checkTurn(t, []int{})
	eachList(10, []int{0, 1}, func(l []int) { checkTurn(t, l) })
	eachList(6, []int{0, 1, 5, math.MaxInt}, func(l []int) { checkTurn(t, l) })
}

func TestP8_1NumbersBelowNothing(t *testing.T) {
	for _, n := range lengths[1:] {
		for _, l := range rows(n) {
			for _, place := range []int{0, n / 2, n - 1} {
				for _, below := range []int{-1, -2, math.MinInt} {
					checkNotTurned(t, changed(l, place, below))
				}
			}
			b, _ := turned.Turn(l)
			checkNotTurned(t, b)
		}
		checkNotTurned(t, again(n, -1))
		checkNotTurned(t, again(n, math.MinInt, -1))
	}
}

func TestP8_2Back(t *testing.T) {
	for _, n := range lengths {
		for _, l := range rows(n) {
			checkBack(t, modelTurn(l), l)
		}
	}
	eachList(9, []int{0, 1}, func(l []int) { checkBack(t, modelTurn(l), l) })
	eachList(5, []int{0, 3, 4, math.MaxInt}, func(l []int) { checkBack(t, modelTurn(l), l) })
}

func TestP8_2OfAnyShortRow(t *testing.T) {
	eachList(6, []int{-1, 0, 1, 2}, func(b []int) { checkEither(t, b) })
	eachList(8, []int{-1, 0, 1}, func(b []int) { checkEither(t, b) })
	eachList(4, []int{math.MinInt, -2, -1, 0, 7, math.MaxInt}, func(b []int) { checkEither(t, b) })
}

func TestP8_2RefusedByHand(t *testing.T) {
	for _, b := range [][]int{
		nil,
		{},
		{0},
		{-2},
		{math.MinInt},
		{1, 1},
		{2, 0, 1},
		{-1, -1},
		{0, -1, -1},
		{-1, 0},
		{-1, 1, 0},
		{1, 0, -1, 0},
		{0, -2},
		{0, -1, -2},
		{-2, -1},
		{1, math.MinInt, -1},
		{0, -3, 0, -1},
	} {
		checkRefused(t, b)
	}
}

// Of a row with two ends, or one that is another number below 0, places go round, too.
func TestP8_2RefusedWherePlacesGoRound(t *testing.T) {
	for _, n := range lengths[1:] {
		for _, l := range rows(n) {
			b := modelTurn(l)
			place := slices.Index(b, -1)
			checkRefused(t, changed(b, place, 0))
			checkRefused(t, changed(b, place, -2))
			checkRefused(t, changed(b, place, math.MinInt))
			for _, other := range []int{0, n / 2, n} {
				if other != place {
					checkRefused(t, changed(b, other, -1))
					checkRefused(t, changed(b, other, -2))
				}
			}
		}
	}
}

func TestP8_2OfNumbersExchanged(t *testing.T) {
	for _, n := range []int{1, 2, 3, 4, 7, 8, 13} {
		for _, l := range rows(n) {
			b := modelTurn(l)
			for j := range b {
				for i := range j {
					checkEither(t, exchanged(b, i, j))
				}
			}
		}
	}
}

func TestP8_3Runs(t *testing.T) {
	for _, c := range []struct {
		b    []int
		want int
	}{
		{nil, 0},
		{[]int{}, 0},
		{[]int{0}, 1},
		{[]int{-1}, 1},
		{[]int{math.MinInt}, 1},
		{[]int{math.MaxInt}, 1},
		{[]int{0, 0}, 1},
		{[]int{0, 1}, 2},
		{[]int{-1, -1, -1}, 1},
		{[]int{1, 1, 2, 2, 1}, 3},
		{[]int{1, 2, 2, 2, 1, 1}, 3},
		{[]int{math.MinInt, math.MaxInt, math.MinInt}, 3},
		{[]int{math.MaxInt, math.MaxInt, math.MinInt, math.MinInt, 0}, 3},
		{[]int{1, 3, 3, 2, -1, 1, 1}, 5},
		{again(1000, 4), 1},
		{again(1000, 4, 4, 4, 5), 500},
		{listOf(1000, func(i int) int { return i - 500 }), 1000},
		{listOf(1000, func(i int) int { return -i }), 1000},
	} {
		if got := turned.Runs(c.b); got != c.want {
			t.Errorf("Runs(%v..) of %d: %d, want %d", short(c.b), len(c.b), got, c.want)
		}
	}
}

// How many runs there are is how many parts a row falls into, each of one number.
func TestP8_3RunsOfAllShortRows(t *testing.T) {
	eachList(6, []int{math.MinInt, -1, 0, math.MaxInt}, func(b []int) {
		count := 0
		for rest := b; len(rest) > 0; count++ {
			same := 1
			for same < len(rest) && rest[same] == rest[0] {
				same++
			}
			rest = rest[same:]
		}
		if got := turned.Runs(b); got != count {
			t.Fatalf("Runs(%v): %d, want %d", b, got, count)
		}
	})
}

// checkRound turns a row and tells it back, and goes round through all its places.
func checkRound(t *testing.T, l []int) {
	t.Helper()
	b, err := turned.Turn(l)
	if err != api.OK || len(b) != len(l)+1 {
		t.Fatalf("Turn(%v..) of %d: %d numbers, %d", short(l), len(l), len(b), err)
	}
	if back, err := turned.Back(b); err != api.OK || !slices.Equal(back, l) {
		t.Fatalf("%v.. of %d is told back as %v.. %d", short(l), len(l), short(back), err)
	}
	next, err := turned.Next(b)
	if err != api.OK || len(next) != len(b) {
		t.Fatalf("Next of %v.. turned: %d places, %d", short(l), len(next), err)
	}
	place, gone := 0, make([]bool, len(b))
	for range next {
		place = next[place]
		if place < 0 || place >= len(gone) || gone[place] {
			t.Fatalf("Next of %v.. turned leads to %d", short(l), place)
		}
		gone[place] = true
	}
}

func TestP8_4ToldBack(t *testing.T) {
	for _, n := range lengths {
		for _, l := range rows(n) {
			checkRound(t, l)
		}
	}
	eachList(8, []int{0, 1, 2}, func(l []int) { checkRound(t, l) })
}

func TestP8_4ToldBackOfManyNumbers(t *testing.T) {
	for _, n := range []int{65535, 100000} {
		for _, l := range rows(n) {
			checkRound(t, l)
		}
	}
}

// More numbers stand there than order.Stable knows.
func TestP8_4OfMoreNumbersThanKeys(t *testing.T) {
	n := 1<<20 + 1<<19
	checkRound(t, listOf(n, func(i int) int { return (n - i) % (1<<20 + 1<<18) }))
}

// Of many numbers some rows turned are known.
func TestP8_1OfManyNumbers(t *testing.T) {
	const n = 100000
	for _, c := range []struct{ l, want []int }{
		{again(n, 3), slices.Concat(again(n, 3), []int{-1})},
		{listOf(n, func(i int) int { return n - 1 - i }), listOf(n+1, func(i int) int { return (i+1)%(n+1) - 1 })},
		{listOf(n, func(i int) int { return i }), listOf(n+1, func(i int) int { return (i+n)%(n+1) - 1 })},
	} {
		if got, err := turned.Turn(c.l); err != api.OK || !slices.Equal(got, c.want) {
			t.Errorf("Turn(%v..): %v.. %d, want %v..", short(c.l), short(got), err, short(c.want))
		}
	}
}

// Of many numbers a row is refused, too, whose places go round in more than one ring.
func TestP8_2RefusedOfManyNumbers(t *testing.T) {
	const n = 100000
	checkRefused(t, again(n, 3))
	checkRefused(t, changed(again(n, 3), 0, -1))
	checkRefused(t, changed(again(n, 3), n/2, -1))
	checkRefused(t, changed(listOf(n, func(i int) int { return i }), 0, -1))
	checkRefused(t, again(n, -1))
}

func TestMemory(t *testing.T) {
	l, b := []int{2, 1, 3, 1, 3, 1}, []int{1, 3, 3, 2, -1, 1, 1}
	keptL, keptB := slices.Clone(l), slices.Clone(b)
	calls := []func() ([]int, api.Errno){
		func() ([]int, api.Errno) { return turned.Turn(l) },
		func() ([]int, api.Errno) { return turned.Back(b) },
		func() ([]int, api.Errno) { return turned.Next(b) },
		func() ([]int, api.Errno) { return []int{turned.Runs(b)}, api.OK },
	}
	for i, call := range calls {
		first, _ := call()
		want := slices.Clone(first)
		clear(first[:cap(first)])
		if !slices.Equal(l, keptL) || !slices.Equal(b, keptB) {
			t.Fatalf("call %d changed what was handed in", i)
		}
		if second, _ := call(); !slices.Equal(second, want) {
			t.Errorf("call %d: %v, then %v", i, want, second)
		}
	}
}

func TestExamples(t *testing.T) {
	l, b := []int{2, 1, 3, 1, 3, 1}, []int{1, 3, 3, 2, -1, 1, 1}
	if got, err := turned.Turn(l); err != api.OK || !slices.Equal(got, b) {
		t.Error("Turn", got, err)
	}
	if got, err := turned.Back(b); err != api.OK || !slices.Equal(got, l) {
		t.Error("Back", got, err)
	}
	if got, err := turned.Back([]int{1, 1}); err != api.ErrForm || got != nil {
		t.Error("Back of no row turned", got, err)
	}
}

package shaped_test

import (
	"math"
	"slices"
	"strings"
	"testing"

	"topiary/shaped"
)

// growing are counts each of which is about those of the two ahead together, so
// that each symbol is put to the heap of all ahead: the depth is as great as it
// can be. From some 88 on they are above 2^60.
func growing(n int) []int {
	counts := make([]int, n)
	a, b := 1, 1
	for c := range counts {
		counts[c] = a
		a, b = b, min(a, 1<<61)+min(b, 1<<61)
	}
	return counts
}

// all is n counts that are the same.
func all(n, count int) []int {
	return listOf(n, func(int) int { return count })
}

// countLists are lists of counts of all kinds.
func countLists() [][]int {
	out := [][]int{
		nil, {}, {0}, {-1}, {1}, {math.MaxInt}, {math.MinInt, 0}, {0, 3, 0}, {-4, 0, 1 << 60},
		growing(30), growing(70), growing(86), growing(87), growing(88), growing(89), growing(95), growing(300),
		slices.Concat(growing(40), growing(40)), slices.Concat(growing(90), all(90, 1<<60)),
		slices.Concat(all(9, -1), growing(9), all(9, 0)),
	}
	falling := growing(90)
	slices.Reverse(falling)
	out = append(out, falling)
	for _, n := range []int{1, 2, 3, 4, 5, 6, 7, 8, 9, 15, 16, 17, 31, 33, 100, 255, 256, 257, 1000} {
		for _, count := range []int{1, 7, 1<<60 - 1, 1 << 60, 1<<60 + 1, math.MaxInt} {
			out = append(out, all(n, count))
		}
		some := []int{math.MinInt, -1, 0, 1, 2, 1 << 59, 1<<60 - 1, 1 << 60, 1<<60 + 1, 1 << 61, math.MaxInt}
		for seed := range 8 {
			few, many, any := mixed(uint32(seed), 4), mixed(uint32(seed+n), 1<<20), mixed(uint32(seed), len(some))
			out = append(out, listOf(n, few), listOf(n, many),
				listOf(n, func(i int) int { return some[any(i)] }),
				listOf(n, func(i int) int { return many(i) << (few(i) * 10) }))
		}
	}
	return out
}

func TestP5_1Codes(t *testing.T) {
	for _, counts := range countLists() {
		if got, want := shaped.Codes(counts), modelCodes(counts); !slices.Equal(got, want) {
			t.Fatalf("Codes of %d counts %v..: %q, want %q", len(counts), counts[:min(len(counts), 20)], got, want)
		}
	}
}

// eachList goes over all lists of up to n of some numbers.
func eachList(n int, of []int, visit func(l []int)) {
	var more func(l []int)
	more = func(l []int) {
		visit(l)
		if len(l) == n {
			return
		}
		for _, x := range of {
			more(append(l[:len(l):len(l)], x))
		}
	}
	more(nil)
}

func TestP5_1CodesOfAllShortCounts(t *testing.T) {
	check := func(counts []int) {
		if got, want := shaped.Codes(counts), modelCodes(counts); !slices.Equal(got, want) {
			t.Fatalf("Codes of %v: %q, want %q", counts, got, want)
		}
	}
	eachList(6, []int{0, 1, 2, 3, 4}, check)
	eachList(5, []int{-1, 1, 1<<59 + 1, 1<<60 - 1, 1 << 60, 1<<60 + 1, math.MaxInt}, check)
}

func TestP5_1CodesByHand(t *testing.T) {
	for _, c := range []struct {
		counts []int
		want   []string
	}{
		{[]int{5, 1, 1}, []string{"0", "10", "11"}},
		{nil, nil},
		{[]int{0}, []string{""}},
		{[]int{9}, []string{""}},
		{[]int{0, 0, 0}, []string{"", "", ""}},
		{[]int{0, 9, 0}, []string{"", "", ""}},
		{[]int{-1, 9, math.MinInt}, []string{"", "", ""}},
		{[]int{9, 1}, []string{"0", "1"}},
		{[]int{1, 9}, []string{"0", "1"}},
		{[]int{0, 4, -2, 4, 0}, []string{"", "0", "", "1", ""}},
		{[]int{1, 1, 1}, []string{"10", "11", "0"}},
		{[]int{1, 1, 1, 1}, []string{"00", "01", "10", "11"}},
		{[]int{1, 1, 1, 1, 1}, []string{"110", "111", "00", "01", "10"}},
		{[]int{1, 1, 1, 1, 4}, []string{"100", "101", "110", "111", "0"}},
		{[]int{1, 2, 4, 8, 16}, []string{"1110", "1111", "110", "10", "0"}},
		{[]int{16, 8, 4, 2, 1}, []string{"0", "10", "110", "1110", "1111"}},
		// a symbol's heap has a lesser number than what was put together
		{[]int{1, 1, 2, 2}, []string{"00", "01", "10", "11"}},
		{[]int{2, 2, 1, 1}, []string{"00", "01", "10", "11"}},
		{[]int{2, 1, 1, 2, 3}, []string{"00", "110", "111", "01", "10"}},
		// what counts as 2^60 all weighs the same
		{[]int{1 << 60, 1 << 60, 1 << 60}, []string{"10", "11", "0"}},
		{[]int{1<<60 + 2, 1<<60 + 1, 1 << 60}, []string{"10", "11", "0"}},
		{[]int{math.MaxInt, math.MaxInt, 1 << 60}, []string{"10", "11", "0"}},
		{[]int{math.MaxInt, 1<<60 - 1, math.MaxInt}, []string{"10", "11", "0"}},
		{[]int{1<<60 - 1, 1<<60 - 1, 1 << 60, 1 << 60}, []string{"00", "01", "10", "11"}},
		{[]int{1<<60 - 1, 1<<60 - 1, 1<<60 + 1, 1 << 62, 1 << 60}, []string{"110", "111", "00", "01", "10"}},
	} {
		if got := shaped.Codes(c.counts); !slices.Equal(got, c.want) {
			t.Errorf("Codes of %v: %q, want %q", c.counts, got, c.want)
		}
	}
}

// All of one depth, where there are as many symbols as a row may have and more;
// and of two depths, where they are no power of 2.
func TestP5_1CodesOfManySymbols(t *testing.T) {
	for _, n := range []int{4096, 65535, 65536, 65537, 100000} {
		for _, counts := range [][]int{
			all(n, 1), all(n, math.MaxInt), listOf(n, func(i int) int { return i }), listOf(n, mixed(7, 1<<16)),
		} {
			if got, want := shaped.Codes(counts), modelCodes(counts); !slices.Equal(got, want) {
				t.Errorf("Codes of %d counts, %v..: others than asked", n, counts[:5])
			}
		}
	}
}

// A code is a number of more digits than a word has.
func TestP5_1CodesDeeperThanAWord(t *testing.T) {
	codes := shaped.Codes(growing(86))
	if want := strings.Repeat("1", 85); codes[1] != want || codes[0] != want[1:]+"0" || codes[85] != "0" {
		t.Errorf("codes of 86 growing counts: %q, .., %q", codes[:2], codes[85])
	}
}

func TestP5_3NoCodeBeginsAnother(t *testing.T) {
	for _, counts := range countLists() {
		var codes []string
		for c, code := range shaped.Codes(counts) {
			if counts[c] > 0 {
				codes = append(codes, code)
			}
		}
		slices.Sort(codes) // what begins with a text stands next behind it
		for k := 1; k < len(codes); k++ {
			if strings.HasPrefix(codes[k], codes[k-1]) {
				t.Fatalf("codes of %v: %q begins %q", counts, codes[k-1], codes[k])
			}
		}
	}
}

func TestP5_3MoreOftenIsNoLonger(t *testing.T) {
	for _, counts := range countLists() {
		codes := shaped.Codes(counts)
		for c, n := range counts {
			for d, m := range counts {
				if m > 0 && weightOf(n) > weightOf(m) && len(codes[c]) > len(codes[d]) {
					t.Fatalf("codes of %v: %q of %d, %q of %d", counts, codes[c], n, codes[d], m)
				}
			}
		}
	}
}

func TestMemoryOfCodes(t *testing.T) {
	counts := []int{5, 1, 1, 0, 3}
	codes := shaped.Codes(counts)
	if !slices.Equal(counts, []int{5, 1, 1, 0, 3}) {
		t.Errorf("counts are %v behind Codes", counts)
	}
	clear(counts)
	want := slices.Clone(codes)
	again := shaped.Codes([]int{5, 1, 1, 0, 3})
	clear(again)
	if !slices.Equal(codes, want) || !slices.Equal(codes, modelCodes([]int{5, 1, 1, 0, 3})) {
		t.Errorf("codes are %q", codes)
	}
}

package shaped_test

import (
	"math"
	"slices"
	"testing"

	"topiary/api"
	"topiary/shaped"
)

// nothing tells whether a row is as the zero one.
func nothing(s shaped.Shaped) bool {
	return s.Len() == 0 && s.Size() == 0 && s.Cost() == 0 && len(s.List()) == 0
}

func TestP5_2NewRefusesSizes(t *testing.T) {
	for _, size := range noSizes {
		for _, l := range [][]int{nil, {}, {0}, {0, 1, 2}, {-1}, {65536}} {
			if s, e := shaped.New(l, size); e != api.ErrArg || !nothing(s) {
				t.Errorf("New(%v, %d): error %d, want ErrArg", l, size, int(e))
			}
		}
	}
}

func TestP5_2NewRefusesWhatIsNoSymbol(t *testing.T) {
	for _, size := range sizes {
		no := append(slices.Clone(far), size, size+1, 2*size, 1<<16, 1<<16+1, 1<<32, 1<<32+size-1)
		for _, c := range no {
			for _, at := range []int{0, 5, 9} {
				l := listOf(10, mixed(uint32(size), size))
				l[at] = c
				if s, e := shaped.New(l, size); e != api.ErrArg || !nothing(s) {
					t.Errorf("New with %d at %d, size %d: error %d, want ErrArg", c, at, size, int(e))
				}
			}
		}
	}
}

func TestP5_2NewTakesAllSymbols(t *testing.T) {
	for _, size := range sizes {
		l := listOf(size, func(i int) int { return size - 1 - i })
		s := made(t, l, size)
		if !slices.Equal(s.List(), l) {
			t.Errorf("all symbols of size %d are not told again", size)
		}
		for _, c := range []int{0, size / 2, size - 1} {
			i := size - 1 - c
			if s.At(i) != c || s.Select(c, 0) != i || s.Rank(c, i) != 0 || s.Rank(c, i+1) != 1 {
				t.Errorf("symbol %d of all of size %d doesn't stand at %d", c, size, i)
			}
		}
	}
}

func TestP5_2LenSizeList(t *testing.T) {
	eachSample(t, func(t *testing.T, m *model, s shaped.Shaped) {
		if s.Len() != len(m.l) || s.Size() != m.size {
			t.Fatalf("Len %d, Size %d of %d symbols of size %d", s.Len(), s.Size(), len(m.l), m.size)
		}
		same(t, m, "List", s.List(), m.l)
	})
}

func TestP5_2CodeAndCost(t *testing.T) {
	eachSample(t, func(t *testing.T, m *model, s shaped.Shaped) {
		codes, cost := shaped.Codes(m.counts()), 0
		for c, code := range codes {
			if s.Code(c) != code {
				same(t, m, "Code", s.Code(c), code, c)
			}
		}
		for _, c := range m.l {
			cost += len(codes[c])
		}
		sameInt(t, m, "Cost", s.Cost(), cost)
		for _, c := range append(slices.Clone(far), m.size, m.size+1) {
			if c < 0 || c >= m.size {
				same(t, m, "Code", s.Code(c), "", c)
			}
		}
	})
}

func TestP5_2At(t *testing.T) {
	eachSample(t, func(t *testing.T, m *model, s shaped.Shaped) {
		for i := -3; i < len(m.l)+3; i++ {
			sameInt(t, m, "At", s.At(i), m.at(i), i)
		}
		for _, i := range m.borders() {
			sameInt(t, m, "At", s.At(i), m.at(i), i)
		}
	})
}

func TestP5_2Rank(t *testing.T) {
	eachSample(t, func(t *testing.T, m *model, s shaped.Shaped) {
		for _, c := range m.symbols() {
			for _, i := range m.borders() {
				sameInt(t, m, "Rank", s.Rank(c, i), m.rank(c, i), c, i)
			}
		}
	})
}

func TestP5_2Select(t *testing.T) {
	eachSample(t, func(t *testing.T, m *model, s shaped.Shaped) {
		for _, c := range m.symbols() {
			places := m.places(c)
			for k, i := range places {
				sameInt(t, m, "Select", s.Select(c, k), i, c, k)
			}
			for _, k := range append(slices.Clone(far), len(places), len(places)+1, len(m.l), len(m.l)+1) {
				if k < 0 || k >= len(places) {
					sameInt(t, m, "Select", s.Select(c, k), -1, c, k)
				}
			}
		}
	})
}

// Rank and Select hang together as those of wave do.
func TestP5_2RankOfSelect(t *testing.T) {
	eachSample(t, func(t *testing.T, m *model, s shaped.Shaped) {
		for i, c := range m.l {
			if k := s.Rank(c, i); s.Select(c, k) != i || s.At(i) != c {
				t.Fatalf("symbol %d at %d of %v: Rank %d, Select %d", c, i, m.l, k, s.Select(c, k))
			}
		}
	})
}

func TestP5_2AllShortRows(t *testing.T) {
	eachList(6, []int{0, 1, 2, 4}, func(l []int) {
		m := &model{l: l, size: 5}
		s := made(t, l, m.size)
		same(t, m, "List", s.List(), l)
		for c := -1; c <= m.size; c++ {
			for i := -1; i <= len(l)+1; i++ {
				sameInt(t, m, "At", s.At(i), m.at(i), i)
				sameInt(t, m, "Rank", s.Rank(c, i), m.rank(c, i), c, i)
				want := -1
				if places := m.places(c); i >= 0 && i < len(places) {
					want = places[i]
				}
				sameInt(t, m, "Select", s.Select(c, i), want, c, i)
			}
		}
	})
}

// The codes of a row of one symbol alone are nothing: neither these nor the parts
// tell it from those that stand nowhere.
func TestP5_2OneSymbolAlone(t *testing.T) {
	for _, size := range sizes {
		for _, c := range []int{0, size / 2, size - 1} {
			for _, n := range []int{1, 2, 300} {
				m := &model{l: all(n, c), size: size}
				s := made(t, m.l, size)
				same(t, m, "Cost", s.Cost(), 0)
				same(t, m, "Code", s.Code(c), "", c)
				same(t, m, "List", s.List(), m.l)
				for _, d := range []int{-1, c - 1, c, c + 1, 0, size - 1, size} {
					for _, i := range []int{math.MinInt, -1, 0, 1, n - 1, n, n + 1, math.MaxInt} {
						sameInt(t, m, "At", s.At(i), m.at(i), i)
						sameInt(t, m, "Rank", s.Rank(d, i), m.rank(d, i), d, i)
						want := -1
						if d == c && i >= 0 && i < n {
							want = i
						}
						sameInt(t, m, "Select", s.Select(d, i), want, d, i)
					}
				}
			}
		}
	}
}

// emptyTells tells a fault, if a row without symbols tells one.
func emptyTells(t *testing.T, s shaped.Shaped, size int) {
	t.Helper()
	m := &model{size: size}
	if s.Len() != 0 || s.Size() != size || s.Cost() != 0 || len(s.List()) != 0 {
		t.Errorf("no symbols, size %d: Len %d, Size %d, Cost %d, List %v", size, s.Len(), s.Size(), s.Cost(), s.List())
	}
	for _, c := range append(m.symbols(), 0, 1, 2) {
		same(t, m, "Code", s.Code(c), "", c)
		for _, i := range append(m.borders(), 0, 1, 2) {
			sameInt(t, m, "At", s.At(i), -1, i)
			sameInt(t, m, "Rank", s.Rank(c, i), 0, c, i)
			sameInt(t, m, "Select", s.Select(c, i), -1, c, i)
		}
	}
}

func TestP5_2NoSymbols(t *testing.T) {
	for _, size := range sizes {
		emptyTells(t, made(t, nil, size), size)
		emptyTells(t, made(t, []int{}, size), size)
	}
}

func TestZeroRow(t *testing.T) {
	emptyTells(t, shaped.Shaped{}, 0)
}

// A long row of all kinds of depths, told whole: growing counts, spread.
func TestP5_2LongRow(t *testing.T) {
	counts := growing(22)
	var l []int
	for c, n := range counts {
		l = append(l, listOf(n, func(int) int { return c * 3 })...)
	}
	pick := mixed(3, 1<<20)
	for i := range l {
		j := pick(i) % (i + 1)
		l[i], l[j] = l[j], l[i]
	}
	m := &model{l: l, size: 70}
	s := made(t, l, m.size)
	if !slices.Equal(s.List(), l) {
		t.Fatal("List is another one")
	}
	cost, seen := 0, make([]int, m.size)
	for i, c := range l {
		sameInt(t, m, "At", s.At(i), c, i)
		sameInt(t, m, "Rank", s.Rank(c, i), seen[c], c, i)
		if i%5 == 0 {
			sameInt(t, m, "Select", s.Select(c, seen[c]), i, c, seen[c])
		}
		seen[c]++
		cost += len(s.Code(c))
	}
	sameInt(t, m, "Cost", s.Cost(), cost)
}

func TestMemoryOfRows(t *testing.T) {
	l := []int{3, 1, 2, 1, 0, 1}
	want := slices.Clone(l)
	s := made(t, l, 4)
	if !slices.Equal(l, want) {
		t.Errorf("the list is %v behind New", l)
	}
	clear(l)
	clear(s.List())
	if !slices.Equal(s.List(), want) || s.At(0) != 3 || s.Code(1) != "0" {
		t.Errorf("the row is %v, want %v", s.List(), want)
	}
	one := made(t, []int{2, 2}, 4)
	clear(one.List())
	if !slices.Equal(one.List(), []int{2, 2}) {
		t.Errorf("the row is %v, want 2 2", one.List())
	}
}

func TestExamples(t *testing.T) {
	if codes := shaped.Codes([]int{5, 1, 1}); !slices.Equal(codes, []string{"0", "10", "11"}) {
		t.Errorf("Codes(5 1 1): %q", codes)
	}
	if s := made(t, []int{0, 0, 1, 2}, 3); s.Cost() != 6 {
		t.Errorf("Cost of 0 0 1 2: %d", s.Cost())
	}
}

package fm_test

import (
	"math"
	"slices"
	"testing"

	"topiary/api"
	"topiary/bits"
	"topiary/fm"
	"topiary/ints"
	"topiary/wave"
)

// short is what a failing test shows of a list.
func short[E any](l []E) []E { return l[:min(len(l), 20)] }

// made is New, which must be OK.
func made(t *testing.T, m model) fm.FM {
	t.Helper()
	x, err := fm.New(m.l, m.size)
	if err != api.OK {
		t.Fatalf("New(%v.., %d) of %d: %d", short(m.l), m.size, len(m.l), err)
	}
	return x
}

// loaded is Load of what x tells, which must be OK.
func loaded(t *testing.T, x fm.FM) fm.FM {
	t.Helper()
	y, err := fm.Load(x.Wave(), x.Marks(), x.Samples())
	if err != api.OK {
		t.Fatalf("Load of %v..: %d", short(x.Wave().List()), err)
	}
	return y
}

// eachModel goes over rows of some lengths and sizes, and of all kinds.
func eachModel(lengths, sizes []int, visit func(m model)) {
	for _, size := range sizes {
		for _, n := range lengths {
			for _, l := range rows(n, size) {
				visit(model{l, size})
			}
		}
	}
}

// checkParts holds all that is kept against the model.
func checkParts(t *testing.T, m model, x fm.FM) {
	t.Helper()
	w := x.Wave()
	if w.Size() != m.size+1 || !slices.Equal(w.List(), m.wave()) {
		t.Fatalf("Wave of %v.., %d: %v.., size %d, want %v..", short(m.l), m.size, short(w.List()), w.Size(), short(m.wave()))
	}
	if got := x.Marks().List(); !slices.Equal(got, m.marks()) {
		t.Fatalf("Marks of %v..: %v.., want %v..", short(m.l), short(got), short(m.marks()))
	}
	want, _ := ints.Tight(m.samples())
	if got := x.Samples(); !got.Same(want) {
		t.Fatalf("Samples of %v..: %v.. of width %d, want %v.. of %d", short(m.l), short(got.List()), got.Width(), short(want.List()), want.Width())
	}
}

// checkFound holds Range, Count and Find of p against the model.
func checkFound(t *testing.T, m model, x fm.FM, p []int) {
	t.Helper()
	from, to := m.rangeOf(p)
	if gotFrom, gotTo := x.Range(p); gotFrom != from || gotTo != to {
		t.Fatalf("Range(%v..) in %v.., %d: %d, %d, want %d, %d", short(p), short(m.l), m.size, gotFrom, gotTo, from, to)
	}
	if got := x.Count(p); got != to-from {
		t.Fatalf("Count(%v..) in %v.., %d: %d, want %d", short(p), short(m.l), m.size, got, to-from)
	}
	if got := x.Find(p); !slices.Equal(got, m.find(p)) {
		t.Fatalf("Find(%v..) in %v.., %d: %v.., want %v..", short(p), short(m.l), m.size, short(got), short(m.find(p)))
	}
}

func checkExtracted(t *testing.T, m model, x fm.FM, from, n int) {
	t.Helper()
	if got := x.Extract(from, n); !slices.Equal(got, m.extract(from, n)) {
		t.Fatalf("Extract(%d, %d) of %v.. of %d: %v.., want %v..", from, n, short(m.l), len(m.l), short(got), short(m.extract(from, n)))
	}
}

// checkZero asks all calls of a zero one.
func checkZero(t *testing.T, x fm.FM) {
	t.Helper()
	if w := x.Wave(); w.Len() != 0 || w.Size() != 0 {
		t.Fatalf("a zero one's Wave: %d symbols, size %d", w.Len(), w.Size())
	}
	if x.Marks().Len() != 0 || !x.Samples().Same(ints.Ints{}) || x.Len() != 0 || x.Size() != 0 {
		t.Fatalf("a zero one has %d marks, %d samples, %d symbols, size %d", x.Marks().Len(), x.Samples().Len(), x.Len(), x.Size())
	}
	patterns := [][]int{nil, {}, {0}, {0, 0}, {1}, {-1, 0}, {0, -1}, {1, 2, 3}}
	for _, c := range far {
		patterns = append(patterns, []int{c}, []int{c, 0}, []int{0, c})
	}
	for _, p := range patterns {
		if from, to := x.Range(p); from != 0 || to != 0 || x.Count(p) != 0 || len(x.Find(p)) != 0 {
			t.Fatalf("a zero one's Range(%v): %d, %d, Count %d, Find %v", p, from, to, x.Count(p), x.Find(p))
		}
	}
	for _, from := range append([]int{0, 1}, far...) {
		for _, n := range append([]int{0, 1}, far...) {
			if got := x.Extract(from, n); len(got) != 0 {
				t.Fatalf("a zero one's Extract(%d, %d): %v", from, n, got)
			}
		}
	}
}

// byHand are rows and their parts: a model may be wrong as well.
var byHand = []struct {
	l       []int
	size    int
	wave    []int
	marks   string
	samples []int
	width   int
}{
	{nil, 1, []int{0}, "1", []int{0}, 0},
	{nil, 65535, []int{0}, "1", []int{0}, 0},
	{[]int{0}, 1, []int{1, 0}, "11", []int{1, 0}, 1},
	{[]int{65534}, 65535, []int{65535, 0}, "11", []int{1, 0}, 1},
	{[]int{1, 2}, 4, []int{3, 0, 2}, "110", []int{2, 0}, 2},
	{[]int{2, 1, 3, 1, 3, 1}, 4, []int{2, 4, 4, 3, 0, 2, 2}, "1000100", []int{6, 0}, 3},
	{again(7, 0), 1, []int{1, 1, 1, 1, 1, 1, 1, 0}, "10000001", []int{7, 0}, 3},
	{again(8, 0), 1, []int{1, 1, 1, 1, 1, 1, 1, 1, 0}, "100000001", []int{8, 0}, 4},
	{again(9, 0), 1, []int{1, 1, 1, 1, 1, 1, 1, 1, 1, 0}, "1100000001", []int{9, 8, 0}, 4},
	{[]int{0, 1, 2, 3, 4, 5, 6, 7}, 8, []int{8, 0, 1, 2, 3, 4, 5, 6, 7}, "110000000", []int{8, 0}, 4},
	{[]int{0, 1, 2, 3, 4, 5, 6, 7, 8}, 9, []int{9, 0, 1, 2, 3, 4, 5, 6, 7, 8}, "1100000001", []int{9, 0, 8}, 4},
	{[]int{8, 7, 6, 5, 4, 3, 2, 1, 0}, 9, []int{1, 2, 3, 4, 5, 6, 7, 8, 9, 0}, "1100000001", []int{9, 8, 0}, 4},
}

func TestByHand(t *testing.T) {
	for _, c := range byHand {
		x := made(t, model{c.l, c.size})
		w, marks, samples := x.Wave(), x.Marks().List(), x.Samples()
		if w.Size() != c.size+1 || !slices.Equal(w.List(), c.wave) {
			t.Errorf("Wave of %v, %d: %v, size %d", c.l, c.size, w.List(), w.Size())
		}
		if want := listOf(len(c.marks), func(i int) int { return int(c.marks[i] - '0') }); !slices.EqualFunc(marks, want, func(mark bool, digit int) bool { return mark == (digit == 1) }) {
			t.Errorf("Marks of %v, %d: %v, want %s", c.l, c.size, marks, c.marks)
		}
		if !slices.Equal(samples.List(), c.samples) || samples.Width() != c.width {
			t.Errorf("Samples of %v, %d: %v of width %d, want %v of %d", c.l, c.size, samples.List(), samples.Width(), c.samples, c.width)
		}
		if x.Len() != len(c.l) || x.Size() != c.size || !slices.Equal(x.Extract(0, len(c.l)), c.l) {
			t.Errorf("of %v, %d: %d, size %d, %v", c.l, c.size, x.Len(), x.Size(), x.Extract(0, len(c.l)))
		}
	}
}

func TestP9_1Made(t *testing.T) {
	eachModel(lengths, sizes, func(m model) { checkParts(t, m, made(t, m)) })
	eachList(9, []int{0, 1}, func(l []int) { checkParts(t, model{l, 2}, made(t, model{l, 2})) })
	eachList(6, []int{0, 2, 4}, func(l []int) { checkParts(t, model{l, 5}, made(t, model{l, 5})) })
}

func TestP9_1NoSize(t *testing.T) {
	for _, size := range []int{math.MinInt, -65536, -2, -1, 0, 65536, 65537, 1 << 17, 1<<32 + 4, math.MaxInt} {
		for _, l := range [][]int{nil, {}, {0}, {-1}, {1, 2, 3}, again(9, 0)} {
			x, err := fm.New(l, size)
			if err != api.ErrArg {
				t.Fatalf("New(%v, %d): %d", l, size, err)
			}
			checkZero(t, x)
		}
	}
}

func TestP9_1NoSymbols(t *testing.T) {
	eachModel([]int{1, 2, 7, 8, 9, 25}, sizes, func(m model) {
		n := len(m.l)
		for _, c := range m.noSymbols() {
			for _, place := range []int{0, n / 2, n - 1} {
				x, err := fm.New(changed(m.l, place, c), m.size)
				if err != api.ErrArg {
					t.Fatalf("New(%v.., %d): %d", short(changed(m.l, place, c)), m.size, err)
				}
				checkZero(t, x)
			}
		}
	})
}

func TestP9_2Told(t *testing.T) {
	eachModel(lengths, sizes, func(m model) {
		for _, x := range []fm.FM{made(t, m), loaded(t, made(t, m))} {
			if x.Len() != len(m.l) || x.Size() != m.size {
				t.Fatalf("of %v..: Len %d, Size %d, want %d, %d", short(m.l), x.Len(), x.Size(), len(m.l), m.size)
			}
		}
	})
}

func TestP9_2Found(t *testing.T) {
	eachModel([]int{0, 1, 7, 8, 9, 25}, []int{1, 2, 5, 257, 65535}, func(m model) {
		x := made(t, m)
		for _, p := range m.patterns() {
			checkFound(t, m, x, p)
		}
	})
}

func TestP9_2FoundInAllShortRows(t *testing.T) {
	eachList(4, []int{0, 1, 2}, func(l []int) {
		m := model{l, 3}
		x := made(t, m)
		eachList(4, []int{-1, 0, 1, 2, 3}, func(p []int) { checkFound(t, m, x, p) })
		eachList(2, []int{math.MinInt, math.MaxInt, 0, 2}, func(p []int) { checkFound(t, m, x, p) })
	})
	eachList(9, []int{0, 1}, func(l []int) {
		m := model{l, 2}
		x := made(t, m)
		eachList(3, []int{0, 1}, func(p []int) { checkFound(t, m, x, p) })
	})
}

func TestP9_2FoundByHand(t *testing.T) {
	x := made(t, model{[]int{2, 1, 3, 1, 3, 1}, 4})
	for _, c := range []struct {
		p        []int
		from, to int
		places   []int
	}{
		{nil, 0, 7, []int{0, 1, 2, 3, 4, 5, 6}},
		{[]int{0}, 1, 1, nil},
		{[]int{1}, 1, 4, []int{1, 3, 5}},
		{[]int{2}, 4, 5, []int{0}},
		{[]int{3}, 5, 7, []int{2, 4}},
		{[]int{1, 3}, 2, 4, []int{1, 3}},
		{[]int{3, 1, 3}, 6, 7, []int{2}},
		{[]int{1, 1}, 2, 2, nil},
		{[]int{1, 3, 1, 3, 1, 3}, 4, 4, nil},
		{[]int{2, 1, 3, 1, 3, 1}, 4, 5, []int{0}},
		{[]int{2, 1, 3, 1, 3, 1, 0}, 5, 5, nil},
		{[]int{-1}, 1, 1, nil},
		{[]int{math.MinInt, 3}, 1, 1, nil},
		{[]int{4}, 7, 7, nil},
		{[]int{9, -1}, 7, 7, nil},
		{[]int{math.MaxInt, 1}, 7, 7, nil},
		{[]int{1, -1}, 2, 2, nil},
		{[]int{1, math.MaxInt}, 4, 4, nil},
		{[]int{1, 3, -5, 2}, 2, 2, nil},
		{[]int{3, 1, 4}, 7, 7, nil},
		{[]int{3, 1, math.MinInt}, 6, 6, nil},
	} {
		from, to := x.Range(c.p)
		if from != c.from || to != c.to || x.Count(c.p) != to-from || !slices.Equal(x.Find(c.p), c.places) {
			t.Errorf("of %v: Range %d, %d, Count %d, Find %v, want %d, %d, %v", c.p, from, to, x.Count(c.p), x.Find(c.p), c.from, c.to, c.places)
		}
	}
}

func TestP9_3Extracted(t *testing.T) {
	eachModel([]int{0, 1, 7, 8, 9, 24, 40}, []int{1, 4, 65535}, func(m model) {
		x, n := made(t, m), len(m.l)
		for _, from := range slices.Concat(far, []int{0, 1, 8, n / 2, n - 9, n - 1, n, n + 1}) {
			for _, count := range slices.Concat(far, []int{0, 1, 2, 8, n - from, n - from + 1}) {
				checkExtracted(t, m, x, from, count)
			}
		}
	})
}

func TestP9_3ExtractedFromAllPlaces(t *testing.T) {
	for _, n := range []int{0, 1, 7, 8, 9, 16, 17, 26} {
		for _, l := range rows(n, 5) {
			m := model{l, 5}
			x := made(t, m)
			for from := -2; from < n+3; from++ {
				for count := -2; count < n+3; count++ {
					checkExtracted(t, m, x, from, count)
				}
			}
		}
	}
}

func TestP9_4WhatIsFoundStands(t *testing.T) {
	eachModel([]int{0, 1, 2, 8, 16, 31}, []int{1, 3, 8, 65534}, func(m model) {
		x := loaded(t, made(t, m))
		if got := x.Extract(0, x.Len()); !slices.Equal(got, m.l) {
			t.Fatalf("put in %v.., extracted %v..", short(m.l), short(got))
		}
		for _, p := range m.standing() {
			for _, place := range x.Find(p) {
				if got := x.Extract(place, len(p)); !slices.Equal(got, p) {
					t.Fatalf("%v.. is found at %d of %v.., where %v.. stands", short(p), place, short(m.l), short(got))
				}
			}
		}
	})
}

// In long rows, counts and samples reach over many blocks of bits.
func TestP9_4OfManySymbols(t *testing.T) {
	const n = 5000
	for _, size := range []int{1, 2, 257, 65535} {
		for _, l := range [][]int{again(n, 0), again(n+1, 0, size-1, size/2), listOf(n-1, mixed(7, size))} {
			x := made(t, model{l, size})
			if got := loaded(t, x).Extract(-1, math.MaxInt); !slices.Equal(got, l) {
				t.Fatalf("put in %v.. of %d, extracted %v.. of %d", short(l), len(l), short(got), len(got))
			}
			for _, place := range []int{0, 4099, len(l) - 8} {
				p := l[place : place+2]
				if got, want := x.Find(p), (model{l, size}).find(p); !slices.Equal(got, want) {
					t.Fatalf("Find(%v) of %d: %d places, want %d", p, len(l), len(got), len(want))
				}
			}
			if got := x.Find(l); !slices.Equal(got, []int{0}) {
				t.Fatalf("the whole row stands at %v..", short(got))
			}
		}
	}
}

func TestZero(t *testing.T) {
	checkZero(t, fm.FM{})
}

func TestMemory(t *testing.T) {
	l, p := []int{2, 1, 3, 1, 3, 1, 0, 3, 1, 2}, []int{1, 3}
	m := model{slices.Clone(l), 4}
	x := made(t, model{l, 4})
	clear(l)
	checkParts(t, m, x)
	calls := []func() []int{
		func() []int { return x.Find(p) },
		func() []int { return x.Find(nil) },
		func() []int { return x.Extract(0, 9) },
		func() []int { return x.Extract(8, 9) },
		func() []int { return x.Wave().List() },
		func() []int { return x.Samples().List() },
	}
	for i, call := range calls {
		first := call()
		want := slices.Clone(first)
		clear(first[:cap(first)])
		if second := call(); !slices.Equal(second, want) {
			t.Errorf("call %d: %v, then %v", i, want, second)
		}
	}
	clear(x.Wave().Rows())
	checkParts(t, m, x)
	if !slices.Equal(p, []int{1, 3}) {
		t.Error("what is looked for was changed")
	}
}

// What is handed to New stays as it is.
func TestMemoryHandedIn(t *testing.T) {
	for _, l := range rows(9, 5) {
		kept := slices.Clone(l)
		made(t, model{l, 5})
		if !slices.Equal(l, kept) {
			t.Fatalf("%v was changed to %v", kept, l)
		}
	}
}

func TestExamples(t *testing.T) {
	x := made(t, model{[]int{2, 1, 3, 1, 3, 1}, 4})
	if got := x.Count([]int{1, 3}); got != 2 {
		t.Error("Count", got)
	}
	if got := x.Find([]int{1, 3}); !slices.Equal(got, []int{1, 3}) {
		t.Error("Find", got)
	}
	if got := x.Extract(1, 3); !slices.Equal(got, []int{1, 3, 1}) {
		t.Error("Extract", got)
	}
}

// waveOf is wave.New, which must be OK.
func waveOf(t *testing.T, l []int, size int) wave.Wave {
	t.Helper()
	w, err := wave.New(l, size)
	if err != api.OK {
		t.Fatalf("wave.New(%v.., %d): %d", short(l), size, err)
	}
	return w
}

// tight is ints.Tight of samples, none of which is below 0.
func tight(l []int) ints.Ints {
	x, _ := ints.Tight(l)
	return x
}

// partsOf are what Load takes for the model's row, in the model's words.
func partsOf(t *testing.T, m model) (wave.Wave, bits.Bits, ints.Ints) {
	t.Helper()
	return waveOf(t, m.wave(), m.size+1), bits.Make(m.marks()), tight(m.samples())
}

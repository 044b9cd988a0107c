package fm_test

import (
	"slices"
	"testing"

	"topiary/api"
	"topiary/bits"
	"topiary/fm"
	"topiary/ints"
	"topiary/wave"
)

func checkRefused(t *testing.T, w wave.Wave, marks bits.Bits, samples ints.Ints) {
	t.Helper()
	x, err := fm.Load(w, marks, samples)
	if err != api.ErrForm {
		t.Fatalf("Load(%v.. of size %d, %v.., %v.. of width %d): %d", short(w.List()), w.Size(), short(marks.List()), short(samples.List()), samples.Width(), err)
	}
	checkZero(t, x)
}

// checkLoaded loads what the model says of a row, which must be that row.
func checkLoaded(t *testing.T, m model) {
	t.Helper()
	w, marks, samples := partsOf(t, m)
	x, err := fm.Load(w, marks, samples)
	if err != api.OK {
		t.Fatalf("Load of the parts of %v.., size %d: %d", short(m.l), m.size, err)
	}
	checkParts(t, m, x)
	checkExtracted(t, m, x, 0, len(m.l))
}

// eachSample goes over the rows whose parts are loaded.
func eachSample(visit func(m model)) {
	eachModel([]int{0, 1, 7, 8, 9, 17, 25}, []int{1, 2, 5, 257, 65535}, visit)
}

func TestP9_1Loaded(t *testing.T) {
	eachSample(func(m model) { checkLoaded(t, m) })
	eachList(8, []int{0, 1}, func(l []int) { checkLoaded(t, model{l, 2}) })
	eachList(5, []int{0, 1, 3}, func(l []int) { checkLoaded(t, model{l, 4}) })
}

// The symbols of a row may be fewer than its wave has place for: then it is one of
// another size, and all the same.
func TestP9_1LoadedOfAnotherSize(t *testing.T) {
	m := model{[]int{2, 1, 3, 1, 3, 1, 2, 2, 1}, 4}
	_, marks, samples := partsOf(t, m)
	for size := 4; size < 65536; size += 1 + size/3 {
		other := model{m.l, size}
		x, err := fm.Load(waveOf(t, m.wave(), size+1), marks, samples)
		if err != api.OK || x.Size() != size {
			t.Fatalf("Load of a wave of size %d: size %d, %d", size+1, x.Size(), err)
		}
		checkParts(t, other, x)
		checkFound(t, other, x, []int{size})
		checkFound(t, other, x, []int{size - 1})
	}
	checkLoaded(t, model{nil, 65535})
	checkLoaded(t, model{m.l, 65535})
}

func TestP9_1RefusedOfNoSize(t *testing.T) {
	for n := range 9 {
		checkRefused(t, waveOf(t, again(n, 0), 1), bits.Make([]bool{true}), tight([]int{0}))
		checkRefused(t, waveOf(t, again(n, 0), 1), bits.Bits{}, ints.Ints{})
	}
	checkRefused(t, wave.Wave{}, bits.Bits{}, ints.Ints{})
	checkRefused(t, wave.Wave{}, bits.Make([]bool{true}), tight([]int{0}))
}

func TestP9_1RefusedWithZeroParts(t *testing.T) {
	eachSample(func(m model) {
		w, marks, samples := partsOf(t, m)
		checkRefused(t, wave.Wave{}, marks, samples)
		checkRefused(t, w, bits.Bits{}, samples)
		checkRefused(t, w, bits.Bits{}, ints.Ints{})
		checkRefused(t, w, marks, ints.Ints{})
		checkRefused(t, waveOf(t, nil, m.size+1), marks, samples)
	})
}

// A mark too many or too few is refused, with the samples as they are, and with some
// that fit the marks.
func TestP9_1RefusedWithAMarkTurned(t *testing.T) {
	eachSample(func(m model) {
		w, marks, samples := partsOf(t, m)
		begins, right := m.begins(), marks.List()
		for place := range right {
			turned := changed(right, place, !right[place])
			var fit []int
			for i, mark := range turned {
				if mark {
					fit = append(fit, begins[i])
				}
			}
			checkRefused(t, w, bits.Make(turned), samples)
			checkRefused(t, w, bits.Make(turned), tight(fit))
		}
	})
}

func TestP9_1RefusedWithMarksOfAnotherLength(t *testing.T) {
	eachSample(func(m model) {
		w, marks, samples := partsOf(t, m)
		right := marks.List()
		last := len(right) - 1
		checkRefused(t, w, bits.Make(right[:last]), samples)
		checkRefused(t, w, bits.Make(right[1:]), samples)
		for _, mark := range []bool{false, true} {
			checkRefused(t, w, bits.Make(slices.Concat(right, []bool{mark})), samples)
			checkRefused(t, w, bits.Make(slices.Concat([]bool{mark}, right)), samples)
		}
		checkRefused(t, w, bits.Make(slices.Concat(right, make([]bool, 64))), samples)
	})
}

// Of all marks that a row might have, just its own are taken.
func TestP9_1AllMarks(t *testing.T) {
	for _, l := range rows(9, 3) {
		m := model{l, 3}
		w, _, samples := partsOf(t, m)
		right := m.marks()
		for turned := range 1 << len(right) {
			var marks []bool
			for i := range right {
				marks = append(marks, turned>>i&1 == 1)
			}
			_, err := fm.Load(w, bits.Make(marks), samples)
			if (err == api.OK) != slices.Equal(marks, right) || err != api.OK && err != api.ErrForm {
				t.Fatalf("Load of %v with marks %v: %d", l, marks, err)
			}
		}
	}
}

func TestP9_1RefusedWithOtherSamples(t *testing.T) {
	eachSample(func(m model) {
		w, marks, samples := partsOf(t, m)
		right := samples.List()
		for i, begin := range right {
			checkRefused(t, w, marks, tight(changed(right, i, begin+1)))
			checkRefused(t, w, marks, tight(changed(right, i, begin+8)))
			if begin > 0 {
				checkRefused(t, w, marks, tight(changed(right, i, begin-1)))
				checkRefused(t, w, marks, tight(changed(right, i, 0)))
			}
			checkRefused(t, w, marks, tight(slices.Delete(slices.Clone(right), i, i+1)))
			checkRefused(t, w, marks, tight(slices.Insert(slices.Clone(right), i, begin)))
			checkRefused(t, w, marks, tight(slices.Insert(slices.Clone(right), i, len(m.l))))
		}
		for _, more := range []int{0, 8, len(m.l)} {
			checkRefused(t, w, marks, tight(slices.Concat(right, []int{more})))
		}
		if len(right) > 1 {
			first, second := right[0], right[1]
			checkRefused(t, w, marks, tight(changed(changed(right, 0, second), 1, first)))
		}
	})
}

// The same samples are refused, if they are wider than they must be.
func TestP9_1RefusedWithSamplesNotTight(t *testing.T) {
	eachSample(func(m model) {
		w, marks, samples := partsOf(t, m)
		for _, width := range []int{samples.Width() + 1, samples.Width() + 8, 62} {
			wide, err := ints.Pack(samples.List(), width)
			if err != api.OK {
				t.Fatalf("Pack of width %d: %d", width, err)
			}
			checkRefused(t, w, marks, wide)
		}
	})
}

// checkEither holds Load of any numbers as a wave against the model: if they are no row
// turned, no marks and samples make them one.
func checkEither(t *testing.T, b []int, size int) {
	t.Helper()
	l, ok := isTurned(b)
	if ok {
		checkLoaded(t, model{l, size})
		return
	}
	w := waveOf(t, b, size+1)
	like := model{make([]int, max(len(b)-1, 0)), size}
	checkRefused(t, w, bits.Make(like.marks()), tight(like.samples()))
	checkRefused(t, w, bits.Make(make([]bool, len(b))), ints.Ints{})
	checkRefused(t, w, bits.Bits{}, ints.Ints{})
}

func TestP9_1OfAnyShortWave(t *testing.T) {
	eachList(5, []int{0, 1, 2, 3}, func(b []int) { checkEither(t, b, 3) })
	eachList(8, []int{0, 1}, func(b []int) { checkEither(t, b, 1) })
	eachList(4, []int{0, 1, 65535}, func(b []int) { checkEither(t, b, 65535) })
}

func TestP9_1OfNumbersExchanged(t *testing.T) {
	for _, n := range []int{2, 7, 8, 9} {
		for _, l := range rows(n, 5) {
			b := model{l, 5}.wave()
			for j := range b {
				for i := range j {
					checkEither(t, changed(changed(b, i, b[j]), j, b[i]), 5)
				}
			}
		}
	}
}

// The end stands in a wave just once.
func TestP9_1RefusedOfOtherEnds(t *testing.T) {
	eachSample(func(m model) {
		w, marks, samples := partsOf(t, m)
		b := w.List()
		end := slices.Index(b, 0)
		checkRefused(t, waveOf(t, changed(b, end, 1), m.size+1), marks, samples)
		for place := range b {
			if place != end {
				checkRefused(t, waveOf(t, changed(b, place, 0), m.size+1), marks, samples)
			}
		}
	})
}

// A wave of another row is refused, where its suffixes stand in another order.
func TestP9_1RefusedOfAnotherWave(t *testing.T) {
	m, other := model{again(9, 0), 3}, model{again(9, 0, 1, 2), 3}
	w, marks, samples := partsOf(t, m)
	v, otherMarks, otherSamples := partsOf(t, other)
	checkRefused(t, v, marks, samples)
	checkRefused(t, w, otherMarks, otherSamples)
	checkRefused(t, w, marks, otherSamples)
	checkRefused(t, w, otherMarks, samples)
}

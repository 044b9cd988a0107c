package values_test

import (
	"slices"
	"strings"
	"testing"

	"topiary/api"
	"topiary/fm"
	"topiary/values"
)

// short is what a failing test shows of a text.
func short(s string) string { return s[:min(len(s), 20)] }

// show is what a failing test shows of the texts.
func (m model) show() []string { return m.l[:min(len(m.l), 8)] }

// made is New, which must be OK.
func made(t *testing.T, m model) values.Values {
	t.Helper()
	v, err := values.New(m.l)
	if err != api.OK {
		t.Fatalf("New(%.40q..) of %d: %d", m.show(), len(m.l), err)
	}
	return v
}

// loaded is Load, which must be OK.
func loaded(t *testing.T, x fm.FM) values.Values {
	t.Helper()
	v, err := values.Load(x)
	if err != api.OK {
		t.Fatalf("Load of %d symbols, size %d: %d", x.Len(), x.Size(), err)
	}
	return v
}

// rowOf is the FM of a row, which must be OK.
func rowOf(t *testing.T, l []int, size int) fm.FM {
	t.Helper()
	x, err := fm.New(l, size)
	if err != api.OK {
		t.Fatalf("fm.New of %d symbols, size %d: %d", len(l), size, err)
	}
	return x
}

// eachMade goes over all samples: as New makes them, as Load makes them of their FM,
// and as Load makes them of that of their row.
func eachMade(t *testing.T, check func(t *testing.T, m model, v values.Values)) {
	t.Helper()
	for _, m := range samples() {
		v := made(t, m)
		check(t, m, v)
		check(t, m, loaded(t, v.FM()))
		check(t, m, loaded(t, rowOf(t, m.row(), 257)))
	}
}

// checkFM holds an FM against that of the row.
func checkFM(t *testing.T, m model, x fm.FM) {
	t.Helper()
	want := rowOf(t, m.row(), 257)
	if x.Len() != want.Len() || x.Size() != 257 || x.Wave().Size() != 258 {
		t.Fatalf("FM of %.40q..: %d symbols, size %d, want %d, 257", m.show(), x.Len(), x.Size(), want.Len())
	}
	if !slices.Equal(x.Wave().List(), want.Wave().List()) || !x.Marks().Same(want.Marks()) || !x.Samples().Same(want.Samples()) {
		t.Fatalf("FM of %.40q..: another row", m.show())
	}
	if got := x.Extract(0, x.Len()); !slices.Equal(got, m.row()) {
		t.Fatalf("FM of %.40q..: the row %v, want %v", m.show(), got[:min(len(got), 20)], m.row()[:min(len(got), 20)])
	}
}

func checkPart(t *testing.T, m model, v values.Values, i, from, n int) {
	t.Helper()
	want := m.part(i, from, n)
	if got, err := v.Part(i, from, n); got != want || err != api.OK {
		t.Fatalf("Part(%d, %d, %d) of %.40q..: %.40q, %d, want %.40q", i, from, n, m.show(), got, err, want)
	}
}

// checkNoText asks for a text where there is none.
func checkNoText(t *testing.T, m model, v values.Values, i int) {
	t.Helper()
	if got, err := v.Get(i); got != "" || err != api.ErrRange {
		t.Fatalf("Get(%d) of %.40q..: %.40q, %d, want ErrRange", i, m.show(), got, err)
	}
	for _, from := range []int{far[0], -1, 0, 1, far[len(far)-1]} {
		for _, n := range []int{far[0], -1, 0, 1, far[len(far)-1]} {
			if got, err := v.Part(i, from, n); got != "" || err != api.ErrRange {
				t.Fatalf("Part(%d, %d, %d) of %.40q..: %.40q, %d, want ErrRange", i, from, n, m.show(), got, err)
			}
		}
	}
}

func checkAt(t *testing.T, m model, v values.Values, place, i, at int) {
	t.Helper()
	if gotI, gotAt := v.At(place); gotI != i || gotAt != at {
		t.Fatalf("At(%d) of %.40q..: %d, %d, want %d, %d", place, m.show(), gotI, gotAt, i, at)
	}
}

// checkFound holds Count, Ids and Equal of p against the model.
func checkFound(t *testing.T, m model, v values.Values, p string) {
	t.Helper()
	if got, want := v.Count(p), m.count(p); got != want {
		t.Fatalf("Count(%.40q) in %.40q..: %d, want %d", p, m.show(), got, want)
	}
	if got, want := v.Ids(p), m.ids(p); !slices.Equal(got, want) {
		t.Fatalf("Ids(%.40q) in %.40q..: %v, want %v", p, m.show(), got, want)
	}
	if got, want := v.Equal(p), m.equal(p); !slices.Equal(got, want) {
		t.Fatalf("Equal(%.40q) in %.40q..: %v, want %v", p, m.show(), got, want)
	}
}

// checkAll asks all calls: texts by their places, places, and each of some patterns.
func checkAll(t *testing.T, m model, v values.Values, patterns []string) {
	t.Helper()
	if v.Len() != len(m.l) || v.Bytes() != m.bytes() {
		t.Fatalf("%.40q..: Len %d, Bytes %d, want %d, %d", m.show(), v.Len(), v.Bytes(), len(m.l), m.bytes())
	}
	checkFM(t, m, v.FM())
	for i, text := range m.l {
		if got, err := v.Get(i); got != text || err != api.OK {
			t.Fatalf("Get(%d) of %.40q..: %.40q, %d, want %.40q", i, m.show(), got, err, text)
		}
	}
	m.eachPlace(func(place, i, at int) { checkAt(t, m, v, place, i, at) })
	for _, place := range append([]int{v.FM().Len(), v.FM().Len() + 1}, far...) {
		checkAt(t, m, v, place, -1, -1)
	}
	for _, i := range append([]int{v.Len(), v.Len() + 1}, far...) {
		checkNoText(t, m, v, i)
	}
	for _, p := range patterns {
		checkFound(t, m, v, p)
	}
}

// nothing asks all calls of one that has no texts.
func nothing(t *testing.T, v values.Values) {
	t.Helper()
	m := model{}
	checkAll(t, m, v, m.patterns())
	for _, i := range []int{-1, 0, 1, 2, 256, 257} {
		checkAt(t, m, v, i, -1, -1)
		checkNoText(t, m, v, i)
	}
}

func TestP10_1FM(t *testing.T) {
	eachMade(t, func(t *testing.T, m model, v values.Values) { checkFM(t, m, v.FM()) })
}

// Rows written out by hand: a model may be wrong as well.
func TestP10_1RowsByHand(t *testing.T) {
	for _, c := range []struct {
		l   []string
		row []int
	}{
		{nil, nil},
		{[]string{""}, []int{0}},
		{[]string{"", ""}, []int{0, 0}},
		{[]string{"a"}, []int{98, 0}},
		{[]string{"", "a"}, []int{0, 98, 0}},
		{[]string{"a", ""}, []int{98, 0, 0}},
		{[]string{"ab", "b", ""}, []int{98, 99, 0, 99, 0, 0}},
		{[]string{"\x00", "\xff"}, []int{1, 0, 256, 0}},
		{[]string{"\x00\x00", "", "\xff\x00"}, []int{1, 1, 0, 0, 256, 1, 0}},
		{[]string{"ü"}, []int{196, 189, 0}},
	} {
		x := made(t, model{c.l}).FM()
		if got := x.Extract(0, x.Len()+1); !slices.Equal(got, c.row) || x.Size() != 257 {
			t.Errorf("the row of %q: %v, size %d, want %v, 257", c.l, got, x.Size(), c.row)
		}
		v := loaded(t, rowOf(t, c.row, 257))
		if v.Len() != len(c.l) {
			t.Errorf("Load of %v: %d texts, want %q", c.row, v.Len(), c.l)
		}
		for i, text := range c.l {
			if got, err := v.Get(i); got != text || err != api.OK {
				t.Errorf("Load of %v: text %d is %q, %d, want %q", c.row, i, got, err, text)
			}
		}
	}
}

// What was handed in may be changed behind the call, and so may what was told.
func TestP10_1AndP10_3KeptApart(t *testing.T) {
	l := []string{"ab", "b", "", "ab"}
	m := model{slices.Clone(l)}
	v := made(t, m)
	w := loaded(t, v.FM())
	for i := range l {
		l[i] = "other"
	}
	for _, x := range []values.Values{v, w} {
		for _, told := range [][]int{x.Ids(""), x.Ids("b"), x.Equal("ab"), x.Equal(""), x.Ids("x")} {
			told = append(told, -9)
			for i := range told {
				told[i] = -7
			}
		}
		checkAll(t, m, x, m.patterns())
	}
	if row := []string{"b", "a"}; made(t, model{row}).Len() != 2 || !slices.Equal(row, []string{"b", "a"}) {
		t.Errorf("New changed its list: %q", row)
	}
}

func TestP10_2LenBytes(t *testing.T) {
	eachMade(t, func(t *testing.T, m model, v values.Values) {
		if v.Len() != len(m.l) || v.Bytes() != m.bytes() {
			t.Fatalf("%.40q..: Len %d, Bytes %d, want %d, %d", m.show(), v.Len(), v.Bytes(), len(m.l), m.bytes())
		}
	})
}

func TestP10_2Get(t *testing.T) {
	eachMade(t, func(t *testing.T, m model, v values.Values) {
		for i, text := range m.l {
			if got, err := v.Get(i); got != text || err != api.OK {
				t.Fatalf("Get(%d) of %.40q..: %.40q, %d, want %.40q", i, m.show(), got, err, text)
			}
		}
		n := len(m.l)
		for _, i := range append([]int{n, n + 1, n + 8, v.FM().Len(), v.FM().Len() + n + 1}, far...) {
			checkNoText(t, m, v, i)
		}
	})
}

func TestP10_2Part(t *testing.T) {
	eachMade(t, func(t *testing.T, m model, v values.Values) {
		for _, i := range m.few() {
			for _, from := range aroundEnds(len(m.l[i])) {
				for _, n := range aroundEnds(len(m.l[i])) {
					checkPart(t, m, v, i, from, n)
				}
			}
		}
	})
}

func TestP10_2PartByHand(t *testing.T) {
	v := made(t, model{[]string{"x", "abcdefghij", ""}})
	for _, c := range []struct {
		i, from, n int
		want       string
	}{
		{1, 0, 10, "abcdefghij"}, {1, 0, 11, "abcdefghij"}, {1, 0, far[len(far)-1], "abcdefghij"},
		{1, 3, 4, "defg"}, {1, 3, 7, "defghij"}, {1, 3, 8, "defghij"}, {1, 9, 1, "j"}, {1, 9, 2, "j"},
		{1, 10, 1, ""}, {1, 11, 1, ""}, {1, 10, 0, ""}, {1, far[len(far)-1], far[len(far)-1], ""},
		{1, -1, 2, "ab"}, {1, -5, 5, "abcde"}, {1, far[0], 3, "abc"}, {1, far[0], far[len(far)-1], "abcdefghij"},
		{1, 3, 0, ""}, {1, 3, -1, ""}, {1, -3, -1, ""}, {1, 3, far[0], ""},
		{0, 0, 2, "x"}, {0, 1, 1, ""}, {0, 0, 9, "x"}, {2, 0, 1, ""}, {2, -1, 5, ""},
	} {
		if got, err := v.Part(c.i, c.from, c.n); got != c.want || err != api.OK {
			t.Errorf("Part(%d, %d, %d): %q, %d, want %q", c.i, c.from, c.n, got, err, c.want)
		}
	}
}

func TestP10_2At(t *testing.T) {
	eachMade(t, func(t *testing.T, m model, v values.Values) {
		m.eachPlace(func(place, i, at int) { checkAt(t, m, v, place, i, at) })
		n := len(m.row())
		for _, place := range append([]int{n, n + 1, n + 8}, far...) {
			checkAt(t, m, v, place, -1, -1)
		}
	})
}

func TestP10_2AtByHand(t *testing.T) {
	v := made(t, model{[]string{"ab", "b", ""}})
	want := [][2]int{{-1, -1}, {0, 0}, {0, 1}, {0, 2}, {1, 0}, {1, 1}, {2, 0}, {-1, -1}, {-1, -1}}
	for k, w := range want {
		if i, at := v.At(k - 1); i != w[0] || at != w[1] {
			t.Errorf("At(%d): %d, %d, want %v", k-1, i, at, w)
		}
	}
}

func TestP10_3Found(t *testing.T) {
	eachMade(t, func(t *testing.T, m model, v values.Values) {
		for _, p := range m.patterns() {
			checkFound(t, m, v, p)
		}
	})
}

func TestP10_3ByHand(t *testing.T) {
	v := made(t, model{[]string{"ab", "b", "", "aaa\x00", "\xffab", "b"}})
	for _, c := range []struct {
		p          string
		count      int
		ids, equal []int
	}{
		{"", 17, []int{0, 1, 2, 3, 4, 5}, []int{2}},
		{"b", 4, []int{0, 1, 4, 5}, []int{1, 5}},
		{"ab", 2, []int{0, 4}, []int{0}},
		{"a", 5, []int{0, 3, 4}, nil},
		{"aa", 2, []int{3}, nil},
		{"aaa", 1, []int{3}, nil},
		{"aaaa", 0, nil, nil},
		{"abb", 0, nil, nil},
		{"bb", 0, nil, nil},
		{"ab\x00", 0, nil, nil},
		{"\x00", 1, []int{3}, nil},
		{"aaa\x00", 1, []int{3}, []int{3}},
		{"\xff", 1, []int{4}, nil},
		{"\xffab", 1, []int{4}, []int{4}},
		{"\x00\xff", 0, nil, nil},
		{"\xfe", 0, nil, nil},
	} {
		if v.Count(c.p) != c.count || !slices.Equal(v.Ids(c.p), c.ids) || !slices.Equal(v.Equal(c.p), c.equal) {
			t.Errorf("%q: Count %d, Ids %v, Equal %v, want %d, %v, %v", c.p, v.Count(c.p), v.Ids(c.p), v.Equal(c.p), c.count, c.ids, c.equal)
		}
	}
}

// Of all short lists, all calls, with all short texts.
func TestP10_OfAllShortLists(t *testing.T) {
	for _, bytes := range []string{"\x00\xff", "a"} {
		var patterns []string
		eachText(4, bytes, func(p string) { patterns = append(patterns, p) })
		eachShort(7, bytes, func(m model) {
			v := made(t, m)
			checkAll(t, m, v, patterns)
			checkAll(t, m, loaded(t, v.FM()), patterns)
		})
	}
}

// A text that is far longer than all ends, too.
func TestP10_3OfLongTexts(t *testing.T) {
	m := model{[]string{strings.Repeat("a", 40), "a"}}
	v := made(t, m)
	long := strings.Repeat("a", 1<<26)
	for _, n := range []int{39, 40, 41, 42, 43, 44, 1 << 12, 1 << 26} {
		checkFound(t, m, v, long[:n])
	}
	zero := values.Values{}
	if zero.Count(long) != 0 || len(zero.Ids(long)) != 0 || len(zero.Equal(long)) != 0 {
		t.Errorf("a zero one: a text of 2^26 bytes is found")
	}
}

func TestP10_Zero(t *testing.T) {
	nothing(t, values.Values{})
	nothing(t, made(t, model{}))
	nothing(t, loaded(t, values.Values{}.FM()))
	nothing(t, loaded(t, rowOf(t, nil, 257)))
}

// Many may ask at once, and all have the same answers.
func TestP10_SameAnswers(t *testing.T) {
	for _, m := range samples()[:12] {
		v := made(t, m)
		t.Run("", func(t *testing.T) {
			t.Parallel()
			for range 3 {
				checkAll(t, m, v, m.patterns())
			}
		})
	}
}

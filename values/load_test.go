package values_test

import (
	"slices"
	"strings"
	"testing"

	"topiary/api"
	"topiary/fm"
	"topiary/values"
)

// most is how many bytes and texts there are at most.
const most = 1 << 20

func checkLimited(t *testing.T, l []string) {
	t.Helper()
	v, err := values.New(l)
	if err != api.ErrLimit {
		t.Fatalf("New of %d texts: %d, want ErrLimit", len(l), err)
	}
	nothing(t, v)
}

func checkRefused(t *testing.T, x fm.FM) {
	t.Helper()
	v, err := values.Load(x)
	if err != api.ErrForm {
		t.Fatalf("Load of %d symbols, size %d: %d, want ErrForm", x.Len(), x.Size(), err)
	}
	nothing(t, v)
}

// greatest are lists of just as many bytes and texts as there may be.
func greatest() []model {
	way := mixed(3, 256)
	some := again(1024, "")
	for i := range some {
		some[i] = textOf(i, way)
	}
	some[1023] += textOf(most-model{some}.bytes()-1024, way)
	return []model{
		{[]string{textOf(most-1, way)}},
		{[]string{textOf(most/2, way), "", textOf(most/2-3, way)}},
		{again(most/2, "\x00")},
		{again(most, "")},
		{some},
	}
}

// checkGreatest asks of a list that is too long to be asked everything.
func checkGreatest(t *testing.T, m model, v values.Values) {
	t.Helper()
	if v.Len() != len(m.l) || v.Bytes() != m.bytes() || v.Len()+v.Bytes() != most || v.FM().Len() != most {
		t.Fatalf("Len %d, Bytes %d, want %d, %d", v.Len(), v.Bytes(), len(m.l), m.bytes())
	}
	last := len(m.l) - 1
	for _, i := range []int{0, last / 2, last} {
		checkPart(t, m, v, i, len(m.l[i])/2, 9)
		checkPart(t, m, v, i, len(m.l[i])-5, 9)
	}
	if got, err := v.Get(last); got != m.l[last] || err != api.OK {
		t.Fatalf("Get(%d): %.40q.., %d", last, got, err)
	}
	checkNoText(t, m, v, last+1)
	m.eachPlace(func(place, i, at int) { checkAt(t, m, v, place, i, at) })
	checkAt(t, m, v, most, -1, -1)
	if v.Count("") != most || len(v.Ids("")) != len(m.l) {
		t.Fatalf("of nothing: Count %d, %d Ids", v.Count(""), len(v.Ids("")))
	}
	end := m.l[last][max(len(m.l[last])-3, 0):]
	if end != "" && len(m.l) < 9 {
		checkFound(t, m, v, end)
	}
}

func TestP10_1OfJustTheLimit(t *testing.T) {
	for _, m := range greatest() {
		t.Run("", func(t *testing.T) {
			t.Parallel()
			v := made(t, m)
			checkGreatest(t, m, v)
			checkGreatest(t, m, loaded(t, v.FM()))
		})
	}
}

func TestP10_1OfMoreThanTheLimit(t *testing.T) {
	for _, m := range greatest() {
		checkLimited(t, append(slices.Clone(m.l), ""))
		checkLimited(t, append([]string{""}, m.l...))
		longer := slices.Clone(m.l)
		longer[0] += "a"
		checkLimited(t, longer)
		longer[0], longer[len(longer)-1] = m.l[0], m.l[len(longer)-1]+"a"
		checkLimited(t, longer)
	}
	million := strings.Repeat("a", most)
	checkLimited(t, []string{million})
	checkLimited(t, []string{"", million})
	checkLimited(t, []string{million + million})
	checkLimited(t, again(3, million))
	checkLimited(t, again(1<<14, million))
	checkLimited(t, again(most+1, ""))
	checkLimited(t, again(most+1, million))
	checkLimited(t, again(1<<22, ""))
}

// All symbols are those of texts, but behind the last one an end must stand.
func TestP10_1LoadRefusesWhatDoesNotEnd(t *testing.T) {
	for last := 1; last <= 256; last++ {
		checkRefused(t, rowOf(t, []int{last}, 257))
		checkRefused(t, rowOf(t, []int{0, last}, 257))
		checkRefused(t, rowOf(t, []int{last, 0, last}, 257))
	}
	for _, m := range samples() {
		for _, last := range []int{1, 98, 256} {
			checkRefused(t, rowOf(t, append(m.row(), last), 257))
		}
	}
	eachText(6, "\x00\x01\x02", func(p string) {
		var l []int
		for _, c := range []byte(p) {
			l = append(l, int(c))
		}
		x := rowOf(t, l, 257)
		if len(l) > 0 && l[len(l)-1] != 0 {
			checkRefused(t, x)
			return
		}
		if got := loaded(t, x).FM(); !slices.Equal(got.Extract(0, len(l)), l) {
			t.Fatalf("Load of %v: another row", l)
		}
	})
}

func TestP10_1LoadRefusesSizes(t *testing.T) {
	for _, size := range []int{1, 2, 255, 256, 258, 259, 512, 65535} {
		for _, l := range [][]int{nil, {0}, {0, 0}, {size - 1, 0}, {size - 1}, {0, size / 2, 0}} {
			checkRefused(t, rowOf(t, l, size))
		}
	}
	for _, m := range samples() {
		for _, size := range []int{258, 65535} {
			checkRefused(t, rowOf(t, m.row(), size))
		}
	}
	checkRefused(t, fm.FM{})
}

func TestP10_1LoadOfNoSymbols(t *testing.T) {
	nothing(t, loaded(t, rowOf(t, nil, 257)))
	nothing(t, loaded(t, rowOf(t, []int{}, 257)))
}

// What fm.Load tells is loaded as what fm.New does.
func TestP10_1LoadOfWhatWasLoaded(t *testing.T) {
	for _, m := range samples() {
		x := made(t, m).FM()
		y, err := fm.Load(x.Wave(), x.Marks(), x.Samples())
		if err != api.OK {
			t.Fatalf("fm.Load of %.40q..: %d", m.show(), err)
		}
		checkAll(t, m, loaded(t, y), m.standing())
	}
}

func TestP10_1LoadRefusesMoreThanTheLimit(t *testing.T) {
	for _, n := range []int{most + 1, most + 2, most + 257} {
		t.Run("", func(t *testing.T) {
			t.Parallel()
			row := make([]int, n)
			checkRefused(t, rowOf(t, row, 257))
			for i := range n - 1 {
				row[i] = 1 + i%256
			}
			checkRefused(t, rowOf(t, row, 257))
		})
	}
}

package values_test

import (
	"math"
	"slices"
	"strings"
)

// far are no places of any text, out to the ends of int.
var far = []int{
	math.MinInt, math.MinInt + 1, -1 << 32, -1 << 20, -2, -1,
	1 << 20, 1<<20 + 1, 1 << 32, math.MaxInt - 1, math.MaxInt,
}

// mixed tells numbers below size that have no pattern, the same ones in each run.
func mixed(seed uint64, size int) func() int {
	return func() int {
		seed = seed*6364136223846793005 + 1442695040888963407
		return int(seed>>33) % size
	}
}

// textOf is a text of n bytes that way tells.
func textOf(n int, way func() int) string {
	b := make([]byte, n)
	for i := range b {
		b[i] = byte(way())
	}
	return string(b)
}

// again is n texts, of which some stand again and again.
func again(n int, l ...string) []string {
	out := make([]string, n)
	for i := range out {
		out[i] = l[i%len(l)]
	}
	return out
}

// allBytes are texts of one byte each, and all of them in one text, up and down.
func allBytes() []string {
	var out []string
	up, down := "", ""
	for b := range 256 {
		one := string([]byte{byte(b)})
		out = append(out, one)
		up, down = up+one, one+down
	}
	return append(out, up, down)
}

// around are texts of lengths about the multiples of 8, of two bytes without a pattern.
func around() []string {
	way := mixed(8, 2)
	var out []string
	for _, n := range []int{7, 8, 9, 0, 15, 16, 17, 1, 63, 64, 65, 31, 32, 33} {
		out = append(out, textOf(n, func() int { return 97 + way() }))
	}
	return out
}

// samples are lists of texts of all kinds that the document names.
func samples() []model {
	lists := [][]string{
		nil, {}, {""}, {"a"}, {"\x00"}, {"\xff"}, {"", ""}, again(3, ""), again(20, ""),
		{"ab", "b", ""},
		{"abab", "b", "", "ab"},
		{"", "a"}, {"a", ""}, {"", "a", ""}, {"", "", "ab", "", "", "", "c", "", ""},
		{"a", "a"}, again(9, "abc"), again(40, "a"), again(17, "aaaa"), again(10, "", "a"),
		{"a", "ab", "abc", "b", "bc", "c", "abcabc"}, {"abcabc", "c", "bc", "b", "abc", "ab", "a"},
		{"aaaaaaaaaaaaaaaaaaaa", "aaaaaaa", "aaaaaaaa", "a", "aaaaaaaaa"},
		{"xy", "yx", "x", "y", "xyx", "yxy"},
		{"\x00\xff", "\xff\x00", "\x00", "\xff", "", "\x00\x00", "\xff\xff", "\x00\xff\x00\xff"},
		{"\x00", "\x00\x00", "\x01", "\x00\x01", "\x01\x00", "\xfe\xff", "\xff\xfe"},
		again(12, "\x00", ""), again(12, "\xff", "\xff\xff"),
		{"für", "\xc3", "\xbc", "ü", "ü ü", "世界", "\xe4\xb8"},
		{strings.Repeat("mississippi", 9), "miss", "issi", "ppi", "ssissi", "mississippi"},
		allBytes(), around(),
		{textOf(300, mixed(1, 256)), textOf(300, mixed(2, 256)), textOf(3, mixed(3, 256))},
		{textOf(400, mixed(4, 2)), textOf(90, mixed(5, 3)), "", textOf(90, mixed(5, 3))},
	}
	var out []model
	for _, l := range lists {
		out = append(out, model{l})
	}
	return out
}

// eachShort goes over all lists of which each byte is one of some, and that have up to
// n bytes and texts together.
func eachShort(n int, bytes string, visit func(m model)) {
	var more func(done []string, open string, left int)
	more = func(done []string, open string, left int) {
		if open == "" {
			visit(model{done})
		}
		if left == 0 {
			return
		}
		more(append(done[:len(done):len(done)], open), "", left-1)
		for i := range len(bytes) {
			if left > 1 {
				more(done, open+bytes[i:i+1], left-1)
			}
		}
	}
	more(nil, "", n)
}

// eachText goes over all texts of up to n bytes, of which each is one of some.
func eachText(n int, bytes string, visit func(p string)) {
	visit("")
	if n == 0 {
		return
	}
	for i := range len(bytes) {
		eachText(n-1, bytes, func(p string) { visit(bytes[i:i+1] + p) })
	}
}

// model tells by going over the texts what is to be told of them.
type model struct{ l []string }

func (m model) bytes() int { return len(strings.Join(m.l, "")) }

// row is the words of the document.
func (m model) row() []int {
	var out []int
	for _, text := range m.l {
		for _, b := range []byte(text) {
			out = append(out, int(b)+1)
		}
		out = append(out, 0)
	}
	return out
}

// part counts on byte by byte.
func (m model) part(i, from, n int) string {
	var out []byte
	for at := max(from, 0); at < len(m.l[i]) && len(out) < n; at++ {
		out = append(out, m.l[i][at])
	}
	return string(out)
}

// eachPlace goes over the places of the row: in which text, and at which byte.
func (m model) eachPlace(visit func(place, i, at int)) {
	place := 0
	for i, text := range m.l {
		for at := range len(text) + 1 {
			visit(place, i, at)
			place++
		}
	}
}

func (m model) count(p string) int {
	count := 0
	m.eachPlace(func(_, i, at int) {
		if strings.HasPrefix(m.l[i][at:], p) {
			count++
		}
	})
	return count
}

// where is at which places of the list a text stands that fits.
func (m model) where(fits func(text string) bool) []int {
	var out []int
	for i, text := range m.l {
		if fits(text) {
			out = append(out, i)
		}
	}
	return out
}

func (m model) ids(p string) []int {
	return m.where(func(text string) bool { return strings.Contains(text, p) })
}

func (m model) equal(p string) []int {
	return m.where(func(text string) bool { return text == p })
}

// aroundEnds are places about the ends of a text of that length, and far ones.
func aroundEnds(length int) []int {
	out := append(slices.Clone(far), 0, 1, 2, 7, 8, length/2, length-1, length, length+1, length+9)
	slices.Sort(out)
	return slices.Compact(out)
}

// few are some of the texts, the first and the last one among them.
func (m model) few() []int {
	var out []int
	for i := 0; i < len(m.l); i += 1 + len(m.l)/12 {
		out = append(out, i)
	}
	if n := len(m.l); n > 0 && out[len(out)-1] != n-1 {
		out = append(out, n-1)
	}
	return out
}

// standing are texts that stand there: whole ones, and parts from some places on.
func (m model) standing() []string {
	var out []string
	for _, i := range m.few() {
		text := m.l[i]
		out = append(out, text)
		for from := 0; from < len(text); from += 1 + len(text)/4 {
			for _, n := range []int{1, 2, 7, len(text)} {
				out = append(out, text[from:min(from+n, len(text))])
			}
		}
	}
	return out
}

// across are texts that stand, if at all, where one text goes over into the next: with
// nothing between them, or with what an end might be taken for.
func (m model) across() []string {
	var out []string
	for _, i := range m.few() {
		if i+1 == len(m.l) {
			continue
		}
		a, b := m.l[i], m.l[i+1]
		last, first := a[max(len(a)-1, 0):], b[:min(len(b), 1)]
		for _, between := range []string{"", "\x00", "\xff", "\x01"} {
			out = append(out, last+between+first, a+between+b, between+b, a+between, first+between+last)
		}
	}
	return out
}

// absent are texts of which most stand nowhere, and such as are longer than all.
func (m model) absent() []string {
	all := strings.Join(m.l, "")
	out := []string{
		"", "a", "b", "ab", "ba", "aa", "x", "\x00", "\xff", "\x00\x00", "\xff\xff", "\x00\xff", "\xff\x00", "\x01",
		"nowhere", all, all + "a", "a" + all, all + all + "b", all + "\x00", "\x00" + all, strings.Join(m.l, "\x00"),
		strings.Repeat("a", len(all)+len(m.l)), strings.Repeat("a", len(all)+len(m.l)+1), strings.Repeat("\x00", 2*len(all)+70),
	}
	for _, text := range m.standing() {
		out = append(out, text+"\x00", "\x00"+text, text+"\xff", "q"+text, text+"q")
	}
	return out
}

// patterns are texts to be looked for, each once.
func (m model) patterns() []string {
	out := slices.Concat(m.standing(), m.across(), m.absent())
	slices.Sort(out)
	return slices.Compact(out)
}

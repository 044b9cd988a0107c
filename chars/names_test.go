package chars_test

import (
	"slices"
	"strings"
	"testing"

	"topiary/chars"
)

// holdNames tells whether names and spaces of a text are found as the model finds them.
func holdNames(t *testing.T, s string) {
	t.Helper()
	if got, want := chars.Name(s), s != "" && modelNameEnd(s, 0) == len(s); got != want {
		t.Errorf("Name(%q): %t", s, got)
	}
	for _, at := range places(s) {
		if got, want := chars.NameEnd(s, at), modelNameEnd(s, at); got != want {
			t.Errorf("NameEnd(%q, %d): %d, want %d", s, at, got, want)
		}
		if got, want := chars.Skip(s, at), modelSkip(s, at); got != want {
			t.Errorf("Skip(%q, %d): %d, want %d", s, at, got, want)
		}
	}
}

func TestP11_2Space(t *testing.T) {
	for b := range 256 {
		if got, want := chars.Space(byte(b)), slices.Contains([]int{9, 10, 13, 32}, b); got != want {
			t.Errorf("Space(%d): %t", b, got)
		}
	}
}

func TestP11_2OfTexts(t *testing.T) {
	for _, s := range texts() {
		for _, text := range []string{s, " " + s, s + "\t", "a" + s, s + "_1", "\r\n" + s + " - "} {
			holdNames(t, text)
		}
	}
}

func TestP11_2OfAllShortTexts(t *testing.T) {
	for b := range 256 {
		one := string([]byte{byte(b)})
		for _, s := range []string{one, "a" + one, one + "a", " " + one, one + " ", "a" + one + "b", " " + one + " "} {
			holdNames(t, s)
		}
	}
	allTexts("azAZ_09-.@[`{/: \t\x00\xff", 3, func(s string) { holdNames(t, s) })
}

func TestP11_2NameByHand(t *testing.T) {
	for s, want := range map[string]bool{
		"a": true, "Z": true, "_": true, "a-1.b_": true, "_-": true, "a..": true, "text": true,
		"": false, "1a": false, "-a": false, ".a": false, "a b": false, " a": false, "a ": false, "a:b": false,
		"é": false, "aé": false, "a\x00": false, "\xff": false, "a*": false,
	} {
		if got := chars.Name(s); got != want {
			t.Errorf("Name(%q): %t", s, got)
		}
	}
}

func TestP11_2ByHand(t *testing.T) {
	for _, c := range []struct {
		s         string
		at        int
		end, skip int
	}{
		{"x a1=", 0, 1, 0}, {"x a1=", 1, 1, 2}, {"x a1=", 2, 4, 2}, {"x a1=", 3, 3, 3}, {"x a1=", 4, 4, 4},
		{"x a1=", 5, 5, 5}, {"x a1=", 6, 6, 6}, {"x a1=", -1, -1, -1}, {"a \t\r\n", 1, 1, 5}, {"a \t\r\n", 0, 1, 0},
		{"", 0, 0, 0}, {"", -7, -7, -7}, {"  ", 0, 0, 2}, {"\v\f", 0, 0, 0}, {" \v", 0, 0, 1}, {"=name", 1, 5, 1},
	} {
		if end, skip := chars.NameEnd(c.s, c.at), chars.Skip(c.s, c.at); end != c.end || skip != c.skip {
			t.Errorf("%q, %d: NameEnd %d, Skip %d, want %d, %d", c.s, c.at, end, skip, c.end, c.skip)
		}
	}
}

func TestP11_2OfLongTexts(t *testing.T) {
	name := strings.Repeat("n", 1<<20)
	spaces := strings.Repeat(" \n", 1<<19)
	if !chars.Name(name) || chars.Name(name+" ") || chars.NameEnd(spaces+name, 1<<20) != 1<<21 {
		t.Error("a long name")
	}
	if chars.Skip(spaces+name, 0) != 1<<20 || chars.Skip(spaces, 7) != 1<<20 {
		t.Error("many spaces")
	}
}

package chars_test

import (
	"strconv"
	"strings"
	"testing"

	"topiary/chars"
)

// holdEntity tells whether what stands for a character is read as the model reads it.
func holdEntity(t *testing.T, s string, at int) {
	t.Helper()
	char, n := chars.Entity(s, at)
	wantChar, wantN := modelEntity(s, at)
	if char != wantChar || n != wantN {
		t.Errorf("Entity(%q, %d): %q, %d, want %q, %d", s, at, char, n, wantChar, wantN)
	}
}

func TestP11_3EntityOfTexts(t *testing.T) {
	for _, s := range texts() {
		for _, at := range places(s) {
			holdEntity(t, s, at)
		}
		for end := range len(s) {
			holdEntity(t, s[:end], 0)
		}
	}
}

func TestP11_3EntityOfAllNumbers(t *testing.T) {
	numbers(func(code int) {
		if code < 0 {
			return
		}
		n, x := strconv.Itoa(code), strconv.FormatInt(int64(code), 16)
		holdEntity(t, "&#"+n+";", 0)
		holdEntity(t, "&#x"+x+";"+n, 0)
		holdEntity(t, "&#x"+strings.ToUpper(x)+";;", 0)
	})
}

func TestP11_3EntityOfAllShortTexts(t *testing.T) {
	allTexts("&#x;1aG", 6, func(s string) { holdEntity(t, s, 0) })
	for b := range 256 {
		one := string([]byte{byte(b)})
		for _, s := range []string{
			one, "&" + one, "&" + one + ";", "&#" + one + ";", "&#x" + one + ";", "&#4" + one + ";", "&#x4" + one + ";",
			"&#65" + one, "&#x41" + one, "&lt" + one, one + "lt;", "&" + one + "t;", "&l" + one + ";", "&am" + one + ";",
		} {
			holdEntity(t, s, 0)
		}
	}
}

func TestP11_3EntityByHand(t *testing.T) {
	for _, c := range []struct {
		s    string
		char string
		n    int
	}{
		{"&lt;", "<", 4}, {"&gt;", ">", 4}, {"&amp;", "&", 5}, {"&quot;", `"`, 6}, {"&apos;", "'", 6},
		{"&#9;", "\t", 4}, {"&#65;", "A", 5}, {"&#00000065;", "A", 11}, {"&#x41;", "A", 6}, {"&#x00000041;", "A", 12},
		{"&#xe9;", "é", 6}, {"&#xE9;", "é", 6}, {"&#x20Ac;", "€", 8}, {"&#x10FFFF;", "\U0010ffff", 10}, {"&#1114111;", "\U0010ffff", 10},
		{"&amp;amp;", "&", 5}, {"&lt;b", "<", 4},
		{"&#000000065;", "", 0}, {"&#x000000041;", "", 0}, {"&#x100000041;", "", 0}, {"&#4294967361;", "", 0},
		{"&#;", "", 0}, {"&#x;", "", 0}, {"&#X41;", "", 0}, {"&#65", "", 0}, {"&#x41", "", 0}, {"&#6a;", "", 0}, {"&#x4g;", "", 0},
		{"&#0;", "", 0}, {"&#31;", "", 0}, {"&#x1f;", "", 0}, {"&#55296;", "", 0}, {"&#xfffe;", "", 0}, {"&#1114112;", "", 0}, {"&#x110000;", "", 0},
		{"&#99999999;", "", 0}, {"&#xffffffff;", "", 0}, {"&# 65;", "", 0}, {"&#-65;", "", 0}, {"&#+65;", "", 0}, {"&#٣;", "", 0},
		{"&nbsp;", "", 0}, {"&LT;", "", 0}, {"&Lt;", "", 0}, {"&lt", "", 0}, {"&amp", "", 0}, {"&;", "", 0}, {"&", "", 0}, {"& lt;", "", 0}, {"&lt ;", "", 0},
		{"", "", 0}, {"<", "", 0}, {"lt;", "", 0}, {" &lt;", "", 0}, {"&ltt;", "", 0}, {"&ampl;", "", 0},
	} {
		if char, n := chars.Entity(c.s, 0); char != c.char || n != c.n {
			t.Errorf("Entity(%q, 0): %q, %d, want %q, %d", c.s, char, n, c.char, c.n)
		}
		if char, n := chars.Entity("x\xff"+c.s, 2); char != c.char || n != c.n {
			t.Errorf("Entity(%q, 2): %q, %d, want %q, %d", "x\xff"+c.s, char, n, c.char, c.n)
		}
	}
}

func TestP11_3EntityOfManyDigits(t *testing.T) {
	many := strings.Repeat("0", 1<<20)
	for _, s := range []string{"&#" + many + "65;", "&#x" + many + "41;", "&" + many + ";"} {
		if char, n := chars.Entity(s, 0); char != "" || n != 0 {
			t.Errorf("%q, %d", char, n)
		}
	}
}

func TestP11_3AndP11_4Escape(t *testing.T) {
	way := strings.NewReplacer("&", "&amp;", "<", "&lt;", ">", "&gt;", `"`, "&quot;")
	hold := func(s string) {
		t.Helper()
		got := chars.Escape(s)
		if want := way.Replace(s); got != want {
			t.Errorf("Escape(%q): %q, want %q", s, got, want)
		}
		if strings.ContainsAny(got, `<"`) || modelRead(got) != s {
			t.Errorf("Escape(%q), read: %q", s, modelRead(got))
		}
	}
	for _, s := range texts() {
		hold(s)
		hold(chars.Escape(s))
	}
	for b := range 256 {
		one := string([]byte{byte(b)})
		hold(one)
		hold("a" + one + "\xff")
	}
	allTexts("&<>\"';a\x00", 4, hold)
}

func TestP11_3EscapeByHand(t *testing.T) {
	for s, want := range map[string]string{
		"": "", "a": "a", "a<b": "a&lt;b", "'": "'", "\"": "&quot;", "<>&\"'": "&lt;&gt;&amp;&quot;'",
		"&lt;": "&amp;lt;", "&amp;amp;": "&amp;amp;amp;", "&#65;": "&amp;#65;", "\x00\xff": "\x00\xff", "é<€": "é&lt;€",
	} {
		if got := chars.Escape(s); got != want {
			t.Errorf("Escape(%q): %q, want %q", s, got, want)
		}
	}
	long := strings.Repeat("a&", 1<<19)
	if chars.Escape(long) != strings.Repeat("a&amp;", 1<<19) {
		t.Error("Escape of a long text")
	}
}

func TestP11_4Read(t *testing.T) {
	numbers(func(code int) {
		s := chars.Encode(code)
		if s == "" {
			return
		}
		if got, size := chars.Rune(s, 0); got != code || size != len(s) {
			t.Fatalf("Rune of Encode(%d): %d, %d", code, got, size)
		}
		if !chars.Allowed(code) {
			return
		}
		if char, _ := chars.Entity("&#"+strconv.Itoa(code)+";", 0); char != s {
			t.Fatalf("Entity of %d: %q", code, char)
		}
	})
}

// read is a text with entities put in their place, as the package itself tells them.
func read(s string) string {
	out := ""
	for at := 0; at < len(s); {
		char, n := chars.Entity(s, at)
		if n == 0 {
			char, n = s[at:at+1], 1
		}
		out, at = out+char, at+n
	}
	return out
}

func TestP11_4EscapedIsReadAgain(t *testing.T) {
	for _, s := range texts() {
		if got := read(chars.Escape(s)); got != s {
			t.Errorf("%q, read again: %q", s, got)
		}
		if got := read(read(chars.Escape(chars.Escape(s)))); got != s {
			t.Errorf("%q, read twice: %q", s, got)
		}
	}
}

package chars_test

import (
	"fmt"
	"slices"
	"strings"
	"testing"

	"topiary/chars"
)

// numbers hands all numbers about the code points to a function, and those far off.
func numbers(ask func(code int)) {
	for code := -3000; code < 1120000; code++ {
		ask(code)
	}
	for _, code := range slices.Concat(far, edges) {
		ask(code)
	}
}

// holdRune tells whether a place of a text is read as the model reads it.
func holdRune(t *testing.T, s string, at int) {
	t.Helper()
	code, size := chars.Rune(s, at)
	wantCode, wantSize := modelRune(s, at)
	if code != wantCode || size != wantSize {
		t.Errorf("Rune(%q, %d): %d, %d, want %d, %d", s, at, code, size, wantCode, wantSize)
	}
}

func TestP11_1Encode(t *testing.T) {
	numbers(func(code int) {
		if got, want := chars.Encode(code), modelEncode(code); got != want {
			t.Fatalf("Encode(%d): %x, want %x", code, got, want)
		}
	})
}

func TestP11_1EncodeByHand(t *testing.T) {
	for code, want := range map[int]string{
		0: "00", 65: "41", 127: "7f", 128: "c280", 233: "c3a9", 2047: "dfbf", 2048: "e0a080", 8364: "e282ac",
		55295: "ed9fbf", 55296: "", 57343: "", 57344: "ee8080", 65533: "efbfbd", 65535: "efbfbf",
		65536: "f0908080", 66376: "f0908d88", 1114111: "f48fbfbf", 1114112: "", -1: "", -65: "",
	} {
		if got := fmt.Sprintf("%x", chars.Encode(code)); got != want {
			t.Errorf("Encode(%d): %s, want %s", code, got, want)
		}
	}
}

func TestP11_1RuneOfWhatIsEncoded(t *testing.T) {
	numbers(func(code int) {
		s := chars.Encode(code)
		if s == "" {
			return
		}
		for _, ahead := range []string{"", "x", "\x80", "é", "\xe2"} {
			for _, behind := range []string{"", "y", "\x80", "€", "\xff"} {
				if got, size := chars.Rune(ahead+s+behind, len(ahead)); got != code || size != len(s) {
					t.Fatalf("Rune of %q behind %q, ahead of %q: %d, %d", s, ahead, behind, got, size)
				}
			}
		}
		for at := 1; at < len(s); at++ {
			if got, size := chars.Rune(s, at); got != -1 || size != 0 {
				t.Fatalf("Rune(%q, %d): %d, %d", s, at, got, size)
			}
			if got, size := chars.Rune(s[:at], 0); got != -1 || size != 0 {
				t.Fatalf("Rune(%q, 0): %d, %d", s[:at], got, size)
			}
		}
	})
}

func TestP11_1RuneOfTexts(t *testing.T) {
	for _, s := range texts() {
		for _, at := range places(s) {
			holdRune(t, s, at)
		}
	}
}

func TestP11_1RuneOfAllShortTexts(t *testing.T) {
	all := make([]byte, 256)
	for b := range all {
		all[b] = byte(b)
	}
	allTexts(string(all), 2, func(s string) { holdRune(t, s, 0) })
	about := "\x00A\x7f\x80\x81\x8f\x90\x9f\xa0\xbf\xc0\xc1\xc2\xdf\xe0\xe1\xec\xed\xee\xef\xf0\xf1\xf3\xf4\xf5\xf7\xf8\xff"
	allTexts(about, 4, func(s string) { holdRune(t, s, 0) })
}

func TestP11_1RuneByHand(t *testing.T) {
	for _, c := range []struct {
		s          string
		at         int
		code, size int
	}{
		{"a€b", 0, 97, 1}, {"a€b", 1, 8364, 3}, {"a€b", 2, -1, 0}, {"a€b", 3, -1, 0}, {"a€b", 4, 98, 1}, {"a€b", 5, -1, 0},
		{"é", 0, 233, 2}, {"\x00", 0, 0, 1}, {"\xff", 0, -1, 0}, {"\U0010ffff", 0, 1114111, 4},
		{"\xef\xbf\xbd", 0, 65533, 3}, {"\xc0\x80", 0, -1, 0}, {"\xe0\x80\x80", 0, -1, 0}, {"\xe0\x9f\xbf", 0, -1, 0},
		{"\xf0\x8f\xbf\xbf", 0, -1, 0}, {"\xed\xa0\x80", 0, -1, 0}, {"\xf4\x90\x80\x80", 0, -1, 0},
		{"\xf8\x88\x80\x80\x80", 0, -1, 0}, {"\xe2\x82", 0, -1, 0}, {"\xe2\x82A", 0, -1, 0}, {"\xe2\xc2\xac", 0, -1, 0},
		{"", 0, -1, 0}, {"", -1, -1, 0},
	} {
		if code, size := chars.Rune(c.s, c.at); code != c.code || size != c.size {
			t.Errorf("Rune(%q, %d): %d, %d, want %d, %d", c.s, c.at, code, size, c.code, c.size)
		}
	}
}

func TestP11_1Allowed(t *testing.T) {
	numbers(func(code int) {
		if got := chars.Allowed(code); got != modelAllowed(code) {
			t.Fatalf("Allowed(%d): %t", code, got)
		}
	})
}

func TestP11_1AllowedByHand(t *testing.T) {
	yes := []int{9, 10, 13, 32, 127, 128, 55295, 57344, 65533, 65536, 131071, 1114111}
	no := []int{-1, 0, 8, 11, 12, 14, 31, 55296, 57343, 65534, 65535, 1114112}
	for _, code := range yes {
		if !chars.Allowed(code) {
			t.Errorf("Allowed(%d): false", code)
		}
	}
	for _, code := range no {
		if chars.Allowed(code) {
			t.Errorf("Allowed(%d): true", code)
		}
	}
}

func TestP11_1Valid(t *testing.T) {
	for _, s := range texts() {
		for _, text := range []string{s, "a" + s, s + "b", "é" + s + "€", s + s} {
			if got := chars.Valid(text); got != modelValid(text) {
				t.Errorf("Valid(%q): %t", text, got)
			}
		}
	}
	numbers(func(code int) {
		if s := chars.Encode(code); s != "" && chars.Valid("x"+s+"y") != modelAllowed(code) {
			t.Fatalf("Valid of %d", code)
		}
	})
	allTexts("\x00\x09 A\x7f\x80\x9f\xa0\xbf\xc2\xdf\xe0\xed\xef\xf0\xf4\xf8\xff", 4, func(s string) {
		if got := chars.Valid(s); got != modelValid(s) {
			t.Errorf("Valid(%q): %t", s, got)
		}
	})
}

func TestP11_1ValidByHand(t *testing.T) {
	for s, want := range map[string]bool{
		"": true, "a": true, "\t\n\r ": true, "für €𐍈": true, "\x00": false, "a\x00": false, "\x1f": false, "\x7f": true,
		"\ufffd": true, "\ufffe": false, "a\uffffb": false, "\xff": false, "a\xc3": false, "\xed\xa0\x80": false,
	} {
		if got := chars.Valid(s); got != want {
			t.Errorf("Valid(%q): %t", s, got)
		}
	}
}

func TestP11_1OfLongTexts(t *testing.T) {
	long := strings.Repeat("a€", 1<<19)
	if !chars.Valid(long) || chars.Valid(long+"\x80") || chars.Valid("\x00"+long) {
		t.Error("Valid of long texts")
	}
	if code, size := chars.Rune(long, len(long)-3); code != 8364 || size != 3 {
		t.Errorf("Rune: %d, %d", code, size)
	}
}

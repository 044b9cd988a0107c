package chars_test

import (
	"math"
	"regexp"
	"strconv"
	"strings"
	"unicode/utf8"
)

// far are no places of any text here, and no code points, out to the ends of int.
var far = []int{
	math.MinInt, math.MinInt + 1, -1 << 32, -1 << 31, -1 << 21, -129, -2, -1,
	1 << 21, 1 << 31, 1 << 32, 1<<32 + 65, math.MaxInt - 1, math.MaxInt,
}

// edges are code points at which something changes, and numbers beside them that are
// none, or not allowed.
var edges = []int{
	0, 1, 8, 9, 10, 11, 12, 13, 14, 31, 32, 33, 34, 38, 39, 60, 62, 126, 127, 128, 129,
	191, 192, 233, 255, 256, 2046, 2047, 2048, 2049, 4095, 4096, 55294, 55295, 55296,
	55297, 56319, 56320, 57342, 57343, 57344, 57345, 65532, 65533, 65534, 65535, 65536,
	65537, 131070, 131071, 262143, 262144, 1048576, 1114109, 1114110, 1114111, 1114112,
	1114113, 2097151, 2097152,
}

// modelIsPoint tells whether a number is a code point.
func modelIsPoint(code int) bool {
	return code >= 0 && code <= 1114111 && (code < 55296 || code > 57343)
}

// modelEncode is a code point's bytes by the chapter's divisions.
func modelEncode(code int) string {
	rest := func(by int) byte { return byte(128 + code/by%64) }
	switch {
	case !modelIsPoint(code):
		return ""
	case code <= 127:
		return string([]byte{byte(code)})
	case code <= 2047:
		return string([]byte{byte(192 + code/64), rest(1)})
	case code <= 65535:
		return string([]byte{byte(224 + code/4096), rest(64), rest(1)})
	}
	return string([]byte{byte(240 + code/262144), rest(4096), rest(64), rest(1)})
}

// modelRune reads a code point by the library.
func modelRune(s string, at int) (int, int) {
	if at < 0 || at >= len(s) {
		return -1, 0
	}
	code, size := utf8.DecodeRuneInString(s[at:])
	if code == utf8.RuneError && size < 3 {
		return -1, 0
	}
	return int(code), size
}

// modelAllowed is the chapter's list of ranges.
func modelAllowed(code int) bool {
	for _, r := range [][2]int{{9, 10}, {13, 13}, {32, 55295}, {57344, 65533}, {65536, 1114111}} {
		if code >= r[0] && code <= r[1] {
			return true
		}
	}
	return false
}

// modelValid goes over the library's runes.
func modelValid(s string) bool {
	for _, code := range s {
		if !modelAllowed(int(code)) {
			return false
		}
	}
	return utf8.ValidString(s)
}

var nameAhead = regexp.MustCompile(`^[A-Za-z_][-A-Za-z0-9_.]*`)

// modelNameEnd is the end of what a pattern finds.
func modelNameEnd(s string, at int) int {
	if at < 0 || at >= len(s) {
		return at
	}
	return at + len(nameAhead.FindString(s[at:]))
}

// modelSkip is where what is left begins, once spaces are cut off.
func modelSkip(s string, at int) int {
	if at < 0 || at >= len(s) {
		return at
	}
	return len(s) - len(strings.TrimLeft(s[at:], " \t\n\r"))
}

var entityAhead = regexp.MustCompile(`^&(?:(lt|gt|amp|quot|apos)|#([0-9]{1,8})|#x([0-9a-fA-F]{1,8}));`)

// modelEntity is what stands for what a pattern finds.
func modelEntity(s string, at int) (string, int) {
	if at < 0 || at >= len(s) {
		return "", 0
	}
	found := entityAhead.FindStringSubmatch(s[at:])
	if found == nil {
		return "", 0
	}
	if found[1] != "" {
		char := map[string]string{"lt": "<", "gt": ">", "amp": "&", "quot": `"`, "apos": "'"}[found[1]]
		return char, len(found[0])
	}
	base := 10
	if found[3] != "" {
		base = 16
	}
	code, _ := strconv.ParseInt(found[2]+found[3], base, 64)
	if !modelAllowed(int(code)) {
		return "", 0
	}
	return string(rune(code)), len(found[0])
}

// modelRead is a text with entities put in their place.
func modelRead(s string) string {
	out := ""
	for at := 0; at < len(s); {
		char, n := modelEntity(s, at)
		if n == 0 {
			char, n = s[at:at+1], 1
		}
		out, at = out+char, at+n
	}
	return out
}

// allTexts hands each text of these bytes, of up to most of them, to a function.
func allTexts(bytes string, most int, ask func(s string)) {
	var grow func(s string)
	grow = func(s string) {
		ask(s)
		if len(s) == most {
			return
		}
		for i := range len(bytes) {
			grow(s + bytes[i:i+1])
		}
	}
	grow("")
}

// places are those of a text, the end, one beyond it, and all that are far.
func places(s string) []int {
	out := []int{len(s), len(s) + 1}
	for at := range len(s) {
		out = append(out, at)
	}
	return append(out, far...)
}

// texts are of all kinds that the document names, right and wrong ones.
func texts() []string {
	out := []string{
		"", " ", "\t", "\n", "\r", " \t\n\r", "a", "_", "a-1.b_", "1a", "-", ".", "\x00", "\xff",
		"\x00a\xff", "\xff<\x00>", "  name=", "x a1=", "a  \n\rb", "\v\f\u0085\u00a0", "\x08\x0b\x0c\x0e\x1f!",
		"<a b=\"c\">&amp;'</a>", "&lt;&gt;&amp;&quot;&apos;", "&&&&", "&amp;amp;", "für 世界 𐍈 x",
		"é", "xé", "éx", "€", "x€y", "𐍈", "x𐍈y", "\U0010ffff", "\ufffd", "\ufffe", "\uffff", "\U00010000",
		"a\xc3", "a\xe2\x82", "a\xf0\x9f\x98", "\xc3(", "\xe2\x28\xa1", "\xe2\x82\x28", "\xf0\x28\x8c\xbc",
		"\xf0\x90\x28\xbc", "\xf0\x28\x8c\x28", "\x80", "\xbf", "\xc0\x80", "\xc1\xbf", "\xe0\x80\x80",
		"\xe0\x9f\xbf", "\xf0\x80\x80\x80", "\xf0\x8f\xbf\xbf", "\xed\xa0\x80", "\xed\xbf\xbf", "\xed\x9f\xbf",
		"\xee\x80\x80", "\xf4\x8f\xbf\xbf", "\xf4\x90\x80\x80", "\xf5\x80\x80\x80", "\xf7\xbf\xbf\xbf",
		"\xf8\x88\x80\x80\x80", "\xfc\x84\x80\x80\x80\x80", "\xfe", "\xc3\xa9\xa9", "\xe2\x82\xac\x82",
	}
	for _, code := range edges {
		n := strconv.Itoa(code)
		x := strconv.FormatInt(int64(code), 16)
		out = append(out, "&#"+n+";", "&#x"+x+";", "a&#x"+strings.ToUpper(x)+";&#"+n+";b", "&#X"+x+";",
			"&#0"+n+";", "&#x00"+x+";", "&#"+n, "&#x"+x, "&#-"+n+";", "&#"+n+" ;", "&"+n+";")
		out = append(out, modelEncode(code), "a"+modelEncode(code), modelEncode(code)+"b", modelEncode(code)+modelEncode(code+1))
	}
	return out
}

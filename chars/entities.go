package chars

// mostDigits is how many digits a number has at most, in what stands for a character.
const mostDigits = 8

// noDigit is more than any digit.
const noDigit = 16

// apostrophe is the one of the entities' characters that Escape leaves as it is.
const apostrophe = "'"

// entities are characters, and the names that stand for them.
var entities = [...]struct{ char, name string }{
	{"<", "&lt;"},
	{">", "&gt;"},
	{"&", "&amp;"},
	{`"`, "&quot;"},
	{apostrophe, "&apos;"},
}

// Entity is the character for which something stands at a place of s, and how many
// bytes that has; nothing, 0, if nothing such stands there.
func Entity(s string, at int) (string, int) {
	if at < 0 || at >= len(s) {
		return "", 0
	}
	s = s[at:]
	for _, e := range entities {
		if begins(s, e.name) {
			return e.char, len(e.name)
		}
	}
	switch {
	case begins(s, "&#x"):
		return numbered(s, 3, 16)
	case begins(s, "&#"):
		return numbered(s, 2, 10)
	}
	return "", 0
}

// numbered is the character whose number's digits stand from a place on, and where
// the entity ends; nothing, 0, if there is none.
func numbered(s string, begin, base int) (string, int) {
	code, end := 0, begin
	read := func() int {
		if end == len(s) {
			return noDigit
		}
		return digit(s[end])
	}
	for d := read(); d < base && end-begin < mostDigits; d = read() {
		code = code*base + d
		end++
	}
	if end == begin || !begins(s[end:], ";") || !Allowed(code) {
		return "", 0
	}
	return Encode(code), end + 1
}

// digit is the number that a byte is as a digit; noDigit, if it is none.
func digit(c byte) int {
	switch {
	case c >= '0' && c <= '9':
		return int(c - '0')
	case c >= 'a' && c <= 'f':
		return int(c-'a') + 10
	case c >= 'A' && c <= 'F':
		return int(c-'A') + 10
	}
	return noDigit
}

// begins tells whether s begins with a text.
func begins(s, text string) bool {
	return len(s) >= len(text) && s[:len(text)] == text
}

// Escape is s with each &, <, > and " by its entity.
func Escape(s string) string {
	var out []byte
	for i := range len(s) {
		out = append(out, escaped(s[i:i+1])...)
	}
	return string(out)
}

// escaped is what Escape writes for a byte.
func escaped(char string) string {
	for _, e := range entities {
		if e.char == char && char != apostrophe {
			return e.name
		}
	}
	return char
}

package chars

// Space tells whether a byte is a space.
func Space(c byte) bool {
	return c == 32 || c == 9 || c == 10 || c == 13
}

// Skip is the first place from at on at which no space stands; at, if there is no
// such place as at.
func Skip(s string, at int) int {
	if at < 0 {
		return at
	}
	for at < len(s) && Space(s[at]) {
		at++
	}
	return at
}

// NameEnd is the end of the longest name that begins at a place; at, if there is none.
func NameEnd(s string, at int) int {
	if at < 0 || at >= len(s) || !isFirst(s[at]) {
		return at
	}
	for at < len(s) && isNamed(s[at]) {
		at++
	}
	return at
}

// Name tells whether s is a name.
func Name(s string) bool {
	return s != "" && NameEnd(s, 0) == len(s)
}

// isFirst tells whether a name may begin with a byte.
func isFirst(c byte) bool {
	return c == '_' || c >= 'a' && c <= 'z' || c >= 'A' && c <= 'Z'
}

// isNamed tells whether a byte may stand in a name.
func isNamed(c byte) bool {
	return isFirst(c) || c >= '0' && c <= '9' || c == '-' || c == '.'
}

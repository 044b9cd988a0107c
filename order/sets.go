package order

// Rises asks whether each number is less than the one behind it.
func Rises(l []int) bool {
	for i, number := range l {
		if i > 0 && l[i-1] >= number {
			return false
		}
	}
	return true
}

// Merge tells all numbers of two lists that rise.
func Merge(a, b []int) []int {
	return beside(a, b, func(inA, inB bool) bool { return true })
}

// Both tells the numbers that are in both of two lists that rise.
func Both(a, b []int) []int {
	return beside(a, b, func(inA, inB bool) bool { return inA && inB })
}

// Without tells the numbers of a list that are not in the other; both rise.
func Without(a, b []int) []int {
	return beside(a, b, func(inA, inB bool) bool { return !inB })
}

// beside goes over two lists that rise side by side, number by number, and tells
// those that are to be kept. Each step goes on in one list at least, so that it ends
// for lists that do not rise, too.
func beside(a, b []int, keep func(inA, inB bool) bool) []int {
	var out []int
	take := func(number int, inA, inB bool) {
		if keep(inA, inB) {
			out = append(out, number)
		}
	}
	i, j := 0, 0
walk:
	for {
		switch {
		case i == len(a) && j == len(b):
			break walk
		case j == len(b) || i < len(a) && a[i] < b[j]:
			take(a[i], true, false)
			i++
		case i == len(a) || b[j] < a[i]:
			take(b[j], false, true)
			j++
		default:
			take(a[i], true, true)
			i++
			j++
		}
	}
	return out
}

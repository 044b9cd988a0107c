package suffix

import (
	"slices"

	"topiary/api"
)

// Common tells, for each place of a row's order, how many numbers the suffix there and
// the one ahead of it begin with alike.
func Common(l, order []int) ([]int, api.Errno) {
	if !slices.Equal(order, Array(l)) {
		return nil, api.ErrArg
	}
	ranks := turned(order)
	out := make([]int, len(l))
	alike := 0
	for p, rank := range ranks {
		if rank == 0 {
			alike = 0
			continue
		}
		q := order[rank-1]
		for max(p, q)+alike < len(l) && l[p+alike] == l[q+alike] {
			alike++
		}
		out[rank] = alike
		// One number on, there are still as many alike, but one.
		alike = max(alike-1, 0)
	}
	return out, api.OK
}

// Find tells how many suffixes are less than p, and how many these are together with
// those that begin with p. Of another row's order both numbers are some up to its
// length.
func Find(l, order, p []int) (from, to int) {
	against := func(i int) int { return slices.Compare(begin(l, order[i], len(p)), p) }
	from = halved(0, len(order), func(i int) bool { return against(i) < 0 })
	to = halved(from, len(order), func(i int) bool { return against(i) <= 0 })
	return from, to
}

// begin tells at most so many numbers from a place on; none from where there is no
// such place.
func begin(l []int, place, most int) []int {
	if place < 0 || place > len(l) {
		return nil
	}
	stop := place + min(most, len(l)-place)
	return l[place:stop:stop]
}

// halved tells the first number from one up to another that is not low, if all that
// are low are ahead of all others.
func halved(from, to int, low func(i int) bool) int {
	for from < to {
		middle := from + (to-from)/2
		if low(middle) {
			from = middle + 1
		} else {
			to = middle
		}
	}
	return from
}

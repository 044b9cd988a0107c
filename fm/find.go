package fm

import "slices"

// Range is how many suffixes are less than p, and how many these are together with
// those that begin with p.
func (x FM) Range(p []int) (from, to int) {
	step := x.ahead
	from, to = 0, x.w.Len()
symbols:
	for k := len(p) - 1; k >= 0; k-- {
		c := p[k]
		if c < 0 || c >= x.Size() {
			from = x.border(c)
			to = from
			continue symbols
		}
		width := x.w.Count(c+1, from, to)
		from = step(c+1, from)
		to = from + width
	}
	return from, to
}

// Count is how often p stands in the row; the empty one, also behind it.
func (x FM) Count(p []int) int {
	from, to := x.Range(p)
	return to - from
}

// Find is at which places p stands in the row, rising.
func (x FM) Find(p []int) []int {
	from, to := x.Range(p)
	found := make([]int, 0, to-from)
	for place := from; place < to; place++ {
		found = append(found, x.begin(place))
	}
	slices.Sort(found)
	return found
}

// Extract is the n symbols from from on, as far as there are. They are told from the
// last one on, as only the symbol ahead of a suffix is known: from the first suffix on
// that is marked and begins behind them.
func (x FM) Extract(from, n int) []int {
	from = min(max(from, 0), x.Len())
	n = min(max(n, 0), x.Len()-from)
	out := make([]int, n)
	mark := markFrom(from + n)
	place, begin := x.places.At(mark), min(mark*every, x.Len())
	step := x.ahead
symbols:
	for at := begin - 1; at >= from; at-- {
		c := x.w.At(place)
		place = step(c, place)
		if at >= from+n {
			continue symbols
		}
		out[at-from] = c - 1
	}
	return out
}

// border is how many suffixes are less than those that a number begins which is no
// symbol: below all of them the empty one, above them all.
func (x FM) border(number int) int {
	if number < 0 {
		return min(1, x.w.Len())
	}
	return x.w.Len()
}

// ahead is how many suffixes are less than the one at place i with the wave's symbol c
// ahead of it; so it is the place of that, if c stands there. Suffixes that begin with
// c are in the order of those behind it.
func (x FM) ahead(c, i int) int {
	return x.w.Below(c, x.w.Len()) + x.w.Rank(c, i)
}

// begin is where the suffix at a place begins: so many symbols behind the first one
// that is marked on the way to longer ones.
func (x FM) begin(place int) int {
	steps := 0
	for x.marks.One(place) == 0 {
		place = x.ahead(x.w.At(place), place)
		steps++
	}
	return x.samples.At(x.marks.Rank1(place)) + steps
}

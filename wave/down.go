package wave

import "topiary/rank"

// bitsAt is, of each of l, whether the bit worth 2^shift is 1.
func bitsAt(l []int, shift int) []bool {
	row := make([]bool, len(l))
	for i, n := range l {
		row[i] = n>>shift&1 == 1
	}
	return row
}

// parted is l behind a stable sort by the bits of a row. As there are two keys
// alone, going over l once for each of them sorts it.
func parted(l []int, row []bool) []int {
	out := make([]int, 0, len(l))
	for _, key := range [2]bool{false, true} {
		for i, n := range l {
			if row[i] == key {
				out = append(out, n)
			}
		}
	}
	return out
}

// bit is that of the symbol c which stands in row k.
func (w Wave) bit(c, k int) int {
	return c >> (len(w.rows) - 1 - k) & 1
}

// down follows the symbol c row by row: from and to go in as a range of places of
// the first row, and come out as where the c of that range stand behind the last
// one (as an empty range, if there is none). On the way it counts those that are
// less than c: they part from it at a row in which they have a 0, and c a 1.
func (w Wave) down(c, from, to int) (less, begin, end int) {
rows:
	for k, row := range w.rows {
		switch {
		case from == to:
			break rows // nothing is left to be told apart
		case w.bit(c, k) == 1:
			all := to - from
			from, to = follow(row, 1, from), follow(row, 1, to)
			less += all - (to - from)
		default:
			from, to = follow(row, 0, from), follow(row, 0, to)
		}
	}
	return less, from, to
}

// follow is where in the next row that begins which stands from place i on, and
// has that bit: so a range's borders go down, and a place with its own bit.
func follow(row rank.Rank, bit, i int) int {
	if bit == 0 {
		return row.Rank0(i)
	}
	return row.Rank0(row.Len()) + row.Rank1(i)
}

// climb is follow's way back: the place in this row, with that bit, of what stands
// at place i of the next one.
func climb(row rank.Rank, bit, i int) int {
	if bit == 0 {
		return row.Select0(i)
	}
	return row.Select1(i - row.Rank0(row.Len()))
}

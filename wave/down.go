package wave

import "topiary/rank"

// bitsAt is, of each of l, whether the bit worth 2^shift is 1.
func bitsAt(l []int, shift int) []bool {
	row := make([]bool, len(l))
	for i, n := range l {
		row[i] = n>>shift&1 == 1
	}
	return row
}

// parted is l behind a stable sort by its keys. As l is in order by all of a key
// but its least bit already, only those that stand side by side and differ in
// nothing else are parted: going over them once for each bit sorts them.
func parted(l []int, key func(n int) int) []int {
	out := make([]int, 0, len(l))
	for begin, end := 0, 0; begin < len(l); begin = end {
		for end < len(l) && key(l[end])>>1 == key(l[begin])>>1 {
			end++
		}
		for bit := range 2 {
			for _, n := range l[begin:end] {
				if key(n)&1 == bit {
					out = append(out, n)
				}
			}
		}
	}
	return out
}

// fork is a part of a row, that of all symbols with the same bits in the rows
// ahead, and how it goes on: these stand at the same places of the next row, but
// those with a 0 from begin on, and those with a 1 from middle on. The zeros and
// the ones ahead of the part are counted once, for all places that go on in it.
type fork struct {
	row                rank.Rank
	begin, middle, end int
	zeros, ones        int
}

// forkAt is the fork of the part of a row from begin on up to end.
func forkAt(row rank.Rank, begin, end int) fork {
	zeros := row.Rank0(begin)
	middle := begin + row.Rank0(end) - zeros
	return fork{row, begin, middle, end, zeros, begin - zeros}
}

// next is the part of the next row at which those with that bit stand.
func (f fork) next(bit int) (begin, end int) {
	if bit == 0 {
		return f.begin, f.middle
	}
	return f.middle, f.end
}

// follow is where in the next row that begins which stands from place i of this
// part on, and has that bit: so a range's borders go down, and a place with its
// own bit.
func (f fork) follow(bit, i int) int {
	if bit == 0 {
		return f.begin + f.row.Rank0(i) - f.zeros
	}
	return f.middle + f.row.Rank1(i) - f.ones
}

// climb is follow's way back: the place in this part, with that bit, of what
// stands at place i of the next row.
func (f fork) climb(bit, i int) int {
	if bit == 0 {
		return f.row.Select0(f.zeros + i - f.begin)
	}
	return f.row.Select1(f.ones + i - f.middle)
}

// bit is that of the symbol c which stands in row k.
func (w Wave) bit(c, k int) int {
	return c >> (len(w.rows) - 1 - k) & 1
}

// down follows the symbol c row by row: from and to go in as a range of places of
// the first row, and come out as where the c of that range stand behind the last
// one (as an empty range, if there is none). On the way it counts those that are
// less than c: they part from it at a row in which they have a 0, and c a 1.
func (w Wave) down(c, from, to int) (less, first, last int) {
	begin, end := 0, w.n
rows:
	for k, row := range w.rows {
		if from == to {
			break rows // nothing is left to be told apart
		}
		all := to - from
		f, bit := forkAt(row, begin, end), w.bit(c, k)
		from, to = f.follow(bit, from), f.follow(bit, to)
		begin, end = f.next(bit)
		if bit == 1 {
			less += all - (to - from)
		}
	}
	return less, from, to
}

// forks is the way of the symbol c through the rows, and the part behind the last
// one, where all c stand side by side.
func (w Wave) forks(c int) (way []fork, begin, end int) {
	begin, end = 0, w.n
	for k, row := range w.rows {
		f := forkAt(row, begin, end)
		way = append(way, f)
		begin, end = f.next(w.bit(c, k))
	}
	return way, begin, end
}

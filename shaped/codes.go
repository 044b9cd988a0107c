package shaped

import (
	"slices"
	"strings"
)

// heaviest is what a weight counts as that is above it, so that no two weights
// are too great to be added.
const heaviest = 1 << 60

// heap is one of symbols that were put together, or of one symbol alone: into is
// the place of the heap that it was put into, among all of them.
type heap struct {
	symbol int
	weight int
	into   int
}

// Codes is a text of digits 0 and 1 for each symbol: nothing, if it is not
// counted, or is the only one that is. What is counted more often has no longer a
// text, and none begins another one.
func Codes(counts []int) []string {
	codes := make([]string, len(counts))
	depths := depthsOf(counts)
	var symbols []int
	for c, depth := range depths {
		if depth > 0 {
			symbols = append(symbols, c)
		}
	}
	slices.SortStableFunc(symbols, func(c, d int) int { return depths[c] - depths[d] })
	for k, c := range symbols {
		if k == 0 {
			codes[c] = strings.Repeat("0", depths[c])
		} else {
			codes[c] = behind(codes[symbols[k-1]], depths[c])
		}
	}
	return codes
}

// behind is the text of the number behind that of code, with as many 0 behind it
// as it takes to be of that depth. Only the last code has no 0.
func behind(code string, depth int) string {
	same := strings.LastIndexByte(code, '0')
	return code[:same] + "1" + strings.Repeat("0", depth-same-1)
}

// depthsOf is, of each symbol, how often the heap that it is in was put together
// with another one.
func depthsOf(counts []int) []int {
	depths := make([]int, len(counts))
	lone := loneHeaps(counts)
	heaps := joined(lone)
	below := make([]int, len(heaps))
	for k := len(heaps) - 2; k >= 0; k-- { // the last one has all symbols: it was put into none
		below[k] = below[heaps[k].into] + 1
	}
	for k, h := range lone {
		depths[h.symbol] = below[k]
	}
	return depths
}

// loneHeaps is one heap for each symbol that is counted, the lightest one first,
// and of those that weigh the same the one with the lesser symbol.
func loneHeaps(counts []int) []heap {
	var lone []heap
	for c, count := range counts {
		if count > 0 {
			lone = append(lone, heap{symbol: c, weight: min(count, heaviest)})
		}
	}
	slices.SortStableFunc(lone, func(a, b heap) int { return a.weight - b.weight })
	return lone
}

// joined is those heaps, and behind them all that come of putting the two lightest
// ones together till one is left. What is put together is never lighter than what
// was so before, and has a greater number than all others: so both the lone ones
// and the new ones stand in order, and the lightest one is the next of either.
func joined(lone []heap) []heap {
	heaps := slices.Clone(lone)
	nextLone, nextNew := 0, len(lone)
	lightest := func() int {
		next := &nextNew
		if nextLone < len(lone) && (nextNew == len(heaps) || heaps[nextLone].weight <= heaps[nextNew].weight) {
			next = &nextLone
		}
		*next++
		return *next - 1
	}
join:
	for {
		var both heap
		for range 2 {
			k := lightest()
			if k == len(heaps) { // there is none, or none to put it together with
				break join
			}
			heaps[k].into = len(heaps)
			both.weight = min(both.weight+heaps[k].weight, heaviest)
		}
		heaps = append(heaps, both)
	}
	return heaps
}

package expr

import (
	"iter"
	"math/bits"
)

// spans is a set of factors of a word: position j is in row i if the factor from i to j is in the set; j is at least i.
// Methods that combine sets may reuse the memory of the first one.
type spans []row

// row is a set of positions as bits.
type row = []uint64

const wordBits = 64 // positions in an element of a row

func newSpans(positions int) spans {
	s := make(spans, positions)
	for i := range positions {
		s[i] = make(row, (positions+wordBits-1)/wordBits)
	}
	return s
}

func add(r row, position int) {
	r[position/wordBits] |= 1 << (position % wordBits)
}

func has(r row, position int) bool {
	return r[position/wordBits]>>(position%wordBits)&1 == 1
}

// addRow adds the members of the row of a position to r; none of them is before that position.
func addRow(r row, s spans, position int) {
	for k := position / wordBits; k < len(r); k++ {
		r[k] |= s[position][k]
	}
}

// members yields the positions in r in ascending order.
func members(r row) iter.Seq[int] {
	return func(yield func(int) bool) {
		for k := range len(r) {
			for rest := r[k]; rest != 0; rest &= rest - 1 {
				if !yield(k*wordBits + bits.TrailingZeros64(rest)) {
					return
				}
			}
		}
	}
}

func (s spans) union(t spans) spans {
	for i := range len(s) {
		addRow(s[i], t, i)
	}
	return s
}

func (s spans) intersection(t spans) spans {
	for i := range len(s) {
		for k := range len(s[i]) {
			s[i][k] &= t[i][k]
		}
	}
	return s
}

// product returns the factors that consist of one in s and one in t behind it.
func (s spans) product(t spans) spans {
	both := newSpans(len(s))
	for i := range len(s) {
		for middle := range members(s[i]) {
			addRow(both[i], t, middle)
		}
	}
	return both
}

// closure returns the factors that consist of any number of factors in s.
func (s spans) closure() spans {
	all := newSpans(len(s))
	// Downwards, so that the rows of the later positions are finished when they are needed.
	for i := len(s) - 1; i >= 0; i-- {
		add(all[i], i)
		for middle := range members(s[i]) {
			// If middle has been reached before, so has all that is reached from it.
			if !has(all[i], middle) {
				addRow(all[i], all, middle)
			}
		}
	}
	return all
}

// complement returns the factors that are not in s.
func (s spans) complement() spans {
	for i := range len(s) {
		for k := range len(s[i]) {
			s[i][k] = positions(k, i, len(s)) &^ s[i][k]
		}
	}
	return s
}

// positions returns element k of the row of all positions from first to before end.
func positions(k, first, end int) uint64 {
	return below(end-k*wordBits) &^ below(first-k*wordBits)
}

// below returns the lowest n bits.
func below(n int) uint64 {
	return 1<<min(max(n, 0), wordBits) - 1
}

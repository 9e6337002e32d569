package subgraph

import (
	"cmp"
	"math/bits"
	"slices"

	"scarfjoint/api"
	"scarfjoint/index"
)

// The lists of a part are sets: ascending, with each number once.

// has reports whether a set contains a number.
func has(set []int, i int) bool {
	_, found := slices.BinarySearch(set, i)
	return found
}

// unite returns what is in one of two sets.
func unite(a, b []int) []int {
	return index.Distinct(slices.Concat(a, b))
}

// intersect returns what is in both of two sets.
func intersect(a, b []int) []int {
	var l []int
	for _, i := range a {
		if has(b, i) {
			l = append(l, i)
		}
	}
	return l
}

// missing returns the numbers below n that are not in a set.
func missing(set []int, n int) []int {
	var l []int
	for i := range n {
		if !has(set, i) {
			l = append(l, i)
		}
	}
	return l
}

// mappedInto returns the elements that have their images in a set.
func mappedInto(set, images []int) []int {
	var l []int
	for i, image := range images {
		if has(set, image) {
			l = append(l, i)
		}
	}
	return l
}

// members returns the numbers of the bits that are set in a word.
func members(word uint) []int {
	var l []int
	for ; word != 0; word &= word - 1 {
		l = append(l, bits.TrailingZeros(word))
	}
	return l
}

// compare orders parts as All lists them.
func compare(p, q api.Part) int {
	return cmp.Or(
		cmp.Compare(len(p.Nodes), len(q.Nodes)),
		slices.Compare(p.Nodes, q.Nodes),
		cmp.Compare(len(p.Edges), len(q.Edges)),
		slices.Compare(p.Edges, q.Edges),
	)
}

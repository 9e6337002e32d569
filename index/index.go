// Package index has what several layers need for lists of indices. It is no layer itself.
package index

import (
	"slices"

	"scarfjoint/api"
)

// In reports whether a list of n elements has an element i.
func In(i, n int) bool {
	return 0 <= i && i < n
}

// CheckAscending returns the error of a list that has to name some of n elements, ascending strictly: ErrRange or ErrOrder for the first one that is wrong.
func CheckAscending(l []int, n int) api.Errno {
	for i, x := range l {
		switch {
		case !In(x, n):
			return api.ErrRange
		case i > 0 && x <= l[i-1]:
			return api.ErrOrder
		}
	}
	return api.OK
}

// Numbers returns n numbers, from a first one on.
func Numbers(first, n int) []int {
	l := make([]int, n)
	for i := range l {
		l[i] = first + i
	}
	return l
}

// Distinct returns the numbers of a list, ascending and each of them once.
func Distinct(l []int) []int {
	return slices.Compact(slices.Sorted(slices.Values(l)))
}

// Follow returns the images of images.
func Follow(images, next []int) []int {
	l := make([]int, len(images))
	for i, image := range images {
		l[i] = next[image]
	}
	return l
}

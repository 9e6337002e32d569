package index_test

import (
	"math"
	"slices"
	"testing"

	"scarfjoint/api"
	"scarfjoint/index"
)

// An index is one of 0 to n - 1.
func TestIn(t *testing.T) {
	for i, want := range map[int]bool{math.MinInt: false, -1: false, 0: true, 1: true, 2: true, 3: false, 4: false, math.MaxInt: false} {
		if index.In(i, 3) != want {
			t.Errorf("In(%d, 3) = %v", i, !want)
		}
	}
	if index.In(0, 0) {
		t.Error("In(0, 0) = true")
	}
}

// The first element with an error decides, and an element that is not there is no matter of order.
func TestCheckAscending(t *testing.T) {
	for i, c := range []struct {
		l    []int
		want api.Errno
	}{
		{nil, api.OK},
		{[]int{}, api.OK},
		{[]int{3}, api.OK},
		{[]int{0, 1, 2, 3}, api.OK},
		{[]int{0, 3}, api.OK},
		{[]int{1, 1}, api.ErrOrder},
		{[]int{2, 1}, api.ErrOrder},
		{[]int{0, 2, 1}, api.ErrOrder},
		{[]int{2, 1, 4}, api.ErrOrder},
		{[]int{4}, api.ErrRange},
		{[]int{-1}, api.ErrRange},
		{[]int{2, -1}, api.ErrRange},
		{[]int{4, 2, 1}, api.ErrRange},
		{[]int{4, 4}, api.ErrRange},
		{[]int{0, math.MaxInt}, api.ErrRange},
		{[]int{math.MinInt, 0}, api.ErrRange},
	} {
		if e := index.CheckAscending(c.l, 4); e != c.want {
			t.Errorf("CheckAscending %d = %d, want %d", i, e, c.want)
		}
	}
}

// Numbers follow one another, Distinct leaves each of them once, without a change of its argument, and Follow returns images of images.
func TestLists(t *testing.T) {
	if l := index.Numbers(0, 0); len(l) != 0 {
		t.Errorf("Numbers(0, 0) = %v", l)
	}
	if l := index.Numbers(3, 4); !slices.Equal(l, []int{3, 4, 5, 6}) {
		t.Errorf("Numbers(3, 4) = %v", l)
	}
	if l := index.Distinct(nil); len(l) != 0 {
		t.Errorf("Distinct of nothing = %v", l)
	}
	l := []int{5, 0, 5, 2, 0}
	if d := index.Distinct(l); !slices.Equal(d, []int{0, 2, 5}) || !slices.Equal(l, []int{5, 0, 5, 2, 0}) {
		t.Errorf("Distinct = %v, and the list is %v", d, l)
	}
	if m := index.Follow([]int{2, 0, 2}, []int{7, 8, 9}); !slices.Equal(m, []int{9, 7, 9}) {
		t.Errorf("Follow = %v", m)
	}
	if m := index.Follow(nil, []int{7}); len(m) != 0 {
		t.Errorf("Follow of nothing = %v", m)
	}
}

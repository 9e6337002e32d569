package partition_test

import (
	"math"
	"slices"
	"testing"

	"scarfjoint/api"
	"scarfjoint/partition"
)

// pairs returns the pairs of the numbers that follow one another.
func pairs(l ...int) []api.Pair {
	var out []api.Pair
	for k := 0; k+1 < len(l); k += 2 {
		out = append(out, api.Pair{A: l[k], B: l[k+1]})
	}
	return out
}

// ascending returns the numbers from 0 to n - 1.
func ascending(n int) []int {
	var l []int
	for i := range n {
		l = append(l, i)
	}
	return l
}

func equal(a, b [][]int) bool {
	return slices.EqualFunc(a, b, slices.Equal[[]int])
}

func expectGenerate(t *testing.T, n int, l []api.Pair, want []int) {
	t.Helper()
	if p, e := partition.Generate(n, l); !slices.Equal(p, want) || e != api.OK {
		t.Errorf("Generate(%d, %v) = %v, %d, want %v, 0", n, l, p, e, want)
	}
}

func expectGenerateError(t *testing.T, n int, l []api.Pair, e api.Errno) {
	t.Helper()
	if p, got := partition.Generate(n, l); len(p) != 0 || got != e {
		t.Errorf("Generate(%d, %v) = %v, %d, want none, %d", n, l, p, got, e)
	}
}

func expectJoin(t *testing.T, a, b, want []int) {
	t.Helper()
	if p, e := partition.Join(a, b); !slices.Equal(p, want) || e != api.OK {
		t.Errorf("Join(%v, %v) = %v, %d, want %v, 0", a, b, p, e, want)
	}
}

func expectMeet(t *testing.T, a, b, want []int) {
	t.Helper()
	if p, e := partition.Meet(a, b); !slices.Equal(p, want) || e != api.OK {
		t.Errorf("Meet(%v, %v) = %v, %d, want %v, 0", a, b, p, e, want)
	}
}

func expectFiner(t *testing.T, a, b []int, want bool) {
	t.Helper()
	if got := partition.Finer(a, b); got != want {
		t.Errorf("Finer(%v, %v) = %v", a, b, got)
	}
}

// expectBothError expects an error of two partitions, in either order.
func expectBothError(t *testing.T, a, b []int, e api.Errno) {
	t.Helper()
	for range 2 {
		if p, got := partition.Join(a, b); len(p) != 0 || got != e {
			t.Errorf("Join(%v, %v) = %v, %d, want none, %d", a, b, p, got, e)
		}
		if p, got := partition.Meet(a, b); len(p) != 0 || got != e {
			t.Errorf("Meet(%v, %v) = %v, %d, want none, %d", a, b, p, got, e)
		}
		expectFiner(t, a, b, false)
		a, b = b, a
	}
}

func expectClasses(t *testing.T, p []int, want ...[]int) {
	t.Helper()
	if l, e := partition.Classes(p); !equal(l, want) || e != api.OK {
		t.Errorf("Classes(%v) = %v, %d, want %v, 0", p, l, e, want)
	}
}

func expectQuotient(t *testing.T, p []int, n int, want ...int) {
	t.Helper()
	if l, got, e := partition.Quotient(p); !slices.Equal(l, want) || got != n || e != api.OK {
		t.Errorf("Quotient(%v) = %v, %d, %d, want %v, %d, 0", p, l, got, e, want, n)
	}
}

// expectListError expects an error of a list that has to be a partition.
func expectListError(t *testing.T, p []int, e api.Errno) {
	t.Helper()
	if partition.Valid(p) {
		t.Errorf("Valid(%v)", p)
	}
	if l, got := partition.Classes(p); len(l) != 0 || got != e {
		t.Errorf("Classes(%v) = %v, %d, want none, %d", p, l, got, e)
	}
	if l, n, got := partition.Quotient(p); len(l) != 0 || n != 0 || got != e {
		t.Errorf("Quotient(%v) = %v, %d, %d, want none, 0, %d", p, l, n, got, e)
	}
	expectBothError(t, p, p, e)
	expectBothError(t, p, ascending(len(p)), e)
}

// P2.1: the chapter's examples.
func TestExamples(t *testing.T) {
	expectGenerate(t, 5, pairs(0, 1, 3, 4, 1, 3), []int{0, 0, 2, 0, 0})
	expectClasses(t, []int{0, 0, 2, 0, 0}, []int{0, 1, 3, 4}, []int{2})
	expectJoin(t, []int{0, 0, 2, 3}, []int{0, 1, 1, 3}, []int{0, 0, 0, 3})
	expectMeet(t, []int{0, 0, 2, 3}, []int{0, 1, 1, 3}, []int{0, 1, 2, 3})
	l, e := partition.All(3)
	if !equal(l, [][]int{{0, 0, 0}, {0, 0, 2}, {0, 1, 0}, {0, 1, 1}, {0, 1, 2}}) || e != api.OK {
		t.Errorf("All(3) = %v, %d", l, e)
	}
}

// P2.1: the results for no element and for one.
func TestFewElements(t *testing.T) {
	for _, none := range [][]int{nil, {}} {
		if !partition.Valid(none) {
			t.Errorf("Valid(%v) is false", none)
		}
		expectJoin(t, none, nil, nil)
		expectMeet(t, nil, none, nil)
		expectFiner(t, none, nil, true)
		expectClasses(t, none)
		expectQuotient(t, none, 0)
	}
	expectGenerate(t, 0, nil, nil)
	expectGenerate(t, 0, []api.Pair{}, nil)
	expectGenerate(t, 1, pairs(0, 0, 0, 0), []int{0})
	one := []int{0}
	expectJoin(t, one, one, one)
	expectMeet(t, one, one, one)
	expectFiner(t, one, one, true)
	expectClasses(t, one, one)
	expectQuotient(t, one, 1, 0)
	for n, want := range [][][]int{{nil}, {{0}}, {{0, 0}, {0, 1}}} {
		if l, e := partition.All(n); !equal(l, want) || e != api.OK {
			t.Errorf("All(%d) = %v, %d, want %v, 0", n, l, e, want)
		}
	}
}

// P2.1: ordinary inputs.
func TestOrdinary(t *testing.T) {
	expectGenerate(t, 3, nil, []int{0, 1, 2})
	expectGenerate(t, 4, pairs(3, 1, 2, 2), []int{0, 1, 2, 1})
	expectGenerate(t, 4, pairs(3, 2, 2, 1, 1, 0), []int{0, 0, 0, 0})
	expectGenerate(t, 6, pairs(5, 4, 3, 2, 5, 3, 2, 4), []int{0, 1, 2, 2, 2, 2})
	expectGenerate(t, 6, pairs(1, 3, 5, 3, 0, 4, 4, 0), []int{0, 1, 2, 1, 0, 1})
	expectJoin(t, []int{0, 1, 0, 3, 4}, []int{0, 1, 2, 2, 1}, []int{0, 1, 0, 0, 1})
	expectJoin(t, []int{0, 0, 2, 2, 4}, []int{0, 1, 0, 1, 4}, []int{0, 0, 0, 0, 4})
	expectMeet(t, []int{0, 0, 0, 3, 3}, []int{0, 1, 1, 3, 1}, []int{0, 1, 1, 3, 4})
	expectMeet(t, []int{0, 1, 1, 1, 0}, []int{0, 1, 0, 1, 0}, []int{0, 1, 2, 1, 0})
	expectFiner(t, []int{0, 1, 0, 1}, []int{0, 0, 0, 0}, true)
	expectFiner(t, []int{0, 0, 0, 0}, []int{0, 1, 0, 1}, false)
	expectFiner(t, []int{0, 0, 2, 2}, []int{0, 1, 1, 0}, false)
	expectClasses(t, []int{0, 1, 0, 3, 1, 0}, []int{0, 2, 5}, []int{1, 4}, []int{3})
	expectQuotient(t, []int{0, 1, 0, 3, 1, 0}, 3, 0, 1, 0, 2, 1, 0)
	expectQuotient(t, []int{0, 0, 0, 3, 3, 5}, 3, 0, 0, 0, 1, 1, 2)
}

// P2.1: lists that are no partitions.
func TestInvalidLists(t *testing.T) {
	for _, p := range [][]int{
		{1}, {-1}, {1, 1}, {0, 2}, {0, -1}, {0, 0, 1}, {0, 1, 3}, {0, 1, 1, 2}, {2, 1, 2}, {0, 0, 2, 1}, {0, 1, 2, 3, 0, 4},
		{math.MaxInt}, {math.MinInt}, {0, math.MaxInt}, {0, math.MinInt}, {0, 1, 2, -2},
	} {
		expectListError(t, p, api.ErrInvalid)
	}
}

// P2.1: the errors of two lists that are not both partitions of one length, in the order of the chapter.
func TestErrorsOfTwo(t *testing.T) {
	long, wrong := ascending(81), []int{0, 2}
	expectBothError(t, long, nil, api.ErrTooLarge)
	expectBothError(t, long, wrong, api.ErrTooLarge)
	expectBothError(t, long, ascending(80), api.ErrTooLarge)
	expectBothError(t, wrong, nil, api.ErrInvalid)
	expectBothError(t, wrong, []int{0, 1}, api.ErrInvalid)
	expectBothError(t, wrong, []int{0, 0, 0}, api.ErrInvalid)
	expectBothError(t, []int{0}, nil, api.ErrArity)
	expectBothError(t, []int{0, 0}, []int{0, 0, 0}, api.ErrArity)
	expectBothError(t, []int{0, 1, 2}, []int{0, 1, 2, 0}, api.ErrArity)
	expectBothError(t, ascending(79), ascending(80), api.ErrArity)
}

// P2.1: lists of 80 numbers are partitions, and longer ones are not.
func TestLongLists(t *testing.T) {
	finest, coarsest := ascending(80), make([]int, 80)
	if !partition.Valid(finest) || !partition.Valid(coarsest) {
		t.Errorf("a list of 80 numbers is no partition")
	}
	expectGenerate(t, 80, nil, finest)
	expectGenerate(t, 80, pairs(79, 79, 0, 0), finest)
	var chain []api.Pair
	for i := range 79 {
		chain = append(chain, api.Pair{A: 79 - i, B: 78 - i})
	}
	expectGenerate(t, 80, chain, coarsest)
	expectJoin(t, finest, coarsest, coarsest)
	expectMeet(t, coarsest, finest, finest)
	expectFiner(t, finest, coarsest, true)
	expectFiner(t, coarsest, finest, false)
	expectClasses(t, coarsest, finest)
	expectQuotient(t, coarsest, 1, coarsest...)
	expectQuotient(t, finest, 80, finest...)
	for _, n := range []int{81, 82, 1000, 100000} {
		expectListError(t, ascending(n), api.ErrTooLarge)
		expectListError(t, make([]int, n), api.ErrTooLarge)
		expectListError(t, slices.Repeat([]int{-1}, n), api.ErrTooLarge)
	}
}

// P2.1: the errors of Generate, in the order of the chapter.
func TestGenerateErrors(t *testing.T) {
	for _, n := range []int{81, 1000, math.MaxInt} {
		expectGenerateError(t, n, nil, api.ErrTooLarge)
		expectGenerateError(t, n, pairs(-1, n), api.ErrTooLarge)
	}
	for _, n := range []int{-1, -81, math.MinInt} {
		expectGenerateError(t, n, nil, api.ErrRange)
		expectGenerateError(t, n, pairs(0, 0), api.ErrRange)
		expectGenerateError(t, n, pairs(n, n), api.ErrRange)
	}
	for _, n := range []int{0, 1, 2, 5, 80} {
		for _, wrong := range []int{-1, n, n + 1, math.MinInt, math.MaxInt} {
			expectGenerateError(t, n, pairs(wrong, wrong), api.ErrRange)
			if n > 0 {
				expectGenerateError(t, n, pairs(wrong, 0), api.ErrRange)
				expectGenerateError(t, n, pairs(0, wrong), api.ErrRange)
				expectGenerateError(t, n, pairs(0, n-1, n-1, 0, 0, wrong), api.ErrRange)
				expectGenerateError(t, n, pairs(wrong, 0, 0, 0), api.ErrRange)
			}
		}
	}
}

// P2.1: the list of pairs can have any length.
func TestGenerateFromManyPairs(t *testing.T) {
	var l []api.Pair
	for k := range 200000 {
		l = append(l, api.Pair{A: 2 * (k % 40), B: 2 * (k / 40 % 40)})
	}
	want := ascending(80)
	for i := 0; i < 80; i += 2 {
		want[i] = 0
	}
	if p, e := partition.Generate(80, l); !slices.Equal(p, want) || e != api.OK {
		t.Errorf("Generate from %d pairs = %v, %d", len(l), p, e)
	}
	l = append(l, api.Pair{A: 0, B: 80})
	if p, e := partition.Generate(80, l); len(p) != 0 || e != api.ErrRange {
		t.Errorf("Generate from %d pairs = %v, %d", len(l), p, e)
	}
}

// P2.1: the errors of All.
func TestAllErrors(t *testing.T) {
	for n, want := range map[int]api.Errno{
		8: api.ErrTooLarge, 9: api.ErrTooLarge, 80: api.ErrTooLarge, 81: api.ErrTooLarge, math.MaxInt: api.ErrTooLarge,
		-1: api.ErrRange, -8: api.ErrRange, math.MinInt: api.ErrRange,
	} {
		if l, e := partition.All(n); len(l) != 0 || e != want {
			t.Errorf("All(%d) = %d partitions, %d, want none, %d", n, len(l), e, want)
		}
	}
}

// expectOwn expects that the lists share no memory, up to their capacities: what is written to one is not seen in another.
func expectOwn(t *testing.T, name string, lists ...[]int) {
	t.Helper()
	for k, l := range lists {
		for i := range l[:cap(l)] {
			l[:cap(l)][i] = -k - 1
		}
	}
	for k, l := range lists {
		for i, x := range l[:cap(l)] {
			if x != -k-1 {
				t.Errorf("%s: place %d of list %d is written with list %d", name, i, k, -x-1)
				return
			}
		}
	}
}

// P2.1 and the section Rules: results share no memory with arguments or with one another.
func TestOwnMemory(t *testing.T) {
	for range 2 {
		a, b, p := []int{0, 0, 2, 2, 4}, []int{0, 1, 2, 1, 0}, []int{0, 1, 0, 3, 1}
		join, _ := partition.Join(a, b)
		same, _ := partition.Join(a, a)
		meet, _ := partition.Meet(a, b)
		alike, _ := partition.Meet(b, b)
		index, _, _ := partition.Quotient(p)
		classes, _ := partition.Classes(p)
		generated, _ := partition.Generate(5, nil)
		expectOwn(t, "results", append(classes, a, b, p, join, same, meet, alike, index, generated)...)
		for n := range 8 {
			all, _ := partition.All(n)
			again, _ := partition.All(n)
			expectOwn(t, "All", append(all, again...)...)
		}
	}
	expectGenerate(t, 5, nil, ascending(5))
	TestExamples(t)
}

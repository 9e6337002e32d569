package difference_test

import (
	"math"
	"math/big"
	"slices"
	"testing"

	"scarfjoint/api"
	"scarfjoint/difference"
)

// v returns a term with a variable, and c one without.
func v(i, add int) api.Term { return api.Term{Var: i, Add: add} }

func c(add int) api.Term { return v(-1, add) }

// le returns the test that a is at most b, and eq the one that they are equal.
func le(a, b api.Term) api.Test { return api.Test{Kind: api.LessEqual, Left: a, Right: b} }

func eq(a, b api.Term) api.Test { return api.Test{Kind: api.Equal, Left: a, Right: b} }

// tests returns a list, and uses one of uses that are written as tests and signs in turn.
func tests(l ...api.Test) []api.Test { return l }

func uses(l ...int) []api.Use {
	var out []api.Use
	for k := 0; k+1 < len(l); k += 2 {
		out = append(out, api.Use{Test: l[k], Sign: l[k+1]})
	}
	return out
}

// forward returns the uses of tests as they stand.
func forward(l ...int) []api.Use {
	var out []api.Use
	for _, i := range l {
		out = append(out, api.Use{Test: i, Sign: 1})
	}
	return out
}

// expectSolution expects of tests that they have a standard solution, and so no refutation.
func expectSolution(t *testing.T, n int, l []api.Test, want ...int) {
	t.Helper()
	if values, e := difference.Solve(n, l); !slices.Equal(values, want) || e != api.OK {
		t.Errorf("Solve(%d, %v) = %v, %d, want %v, 0", n, l, values, e, want)
	}
	if r, e := difference.Refute(n, l); len(r) != 0 || e != api.ErrNone {
		t.Errorf("Refute(%d, %v) = %v, %d, want none, %d", n, l, r, e, api.ErrNone)
	}
	for i, x := range l {
		if !difference.Holds(x, want) {
			t.Errorf("the solution %v of %v does not satisfy the test %d", want, l, i)
		}
	}
}

// expectRefutation expects of tests that they have a standard refutation, and so no solution.
func expectRefutation(t *testing.T, n int, l []api.Test, want []api.Use) {
	t.Helper()
	if r, e := difference.Refute(n, l); !slices.Equal(r, want) || e != api.OK {
		t.Errorf("Refute(%d, %v) = %v, %d, want %v, 0", n, l, r, e, want)
	}
	if values, e := difference.Solve(n, l); len(values) != 0 || e != api.ErrNone {
		t.Errorf("Solve(%d, %v) = %v, %d, want none, %d", n, l, values, e, api.ErrNone)
	}
	expectCheck(t, n, l, want, true)
}

func expectCheck(t *testing.T, n int, l []api.Test, r []api.Use, want bool) {
	t.Helper()
	if got := difference.CheckRefute(n, l, r); got != want {
		t.Errorf("CheckRefute(%d, %v, %v) = %v", n, l, r, got)
	}
}

func expectImplies(t *testing.T, n int, l []api.Test, x api.Test, want bool) {
	t.Helper()
	if is, e := difference.Implies(n, l, x); is != want || e != api.OK {
		t.Errorf("Implies(%d, %v, %v) = %v, %d, want %v, 0", n, l, x, is, e, want)
	}
}

func expectImpliesError(t *testing.T, n int, l []api.Test, x api.Test, want api.Errno) {
	t.Helper()
	if is, e := difference.Implies(n, l, x); is || e != want {
		t.Errorf("Implies(%d, %v, %v) = %v, %d, want false, %d", n, l, x, is, e, want)
	}
}

func expectReduce(t *testing.T, n int, l []api.Test, want []api.Test) {
	t.Helper()
	if remain, e := difference.Reduce(n, l); !slices.Equal(remain, want) || e != api.OK {
		t.Errorf("Reduce(%d, %v) = %v, %d, want %v, 0", n, l, remain, e, want)
	}
}

func expectHolds(t *testing.T, x api.Test, values []int, want bool) {
	t.Helper()
	if is := difference.Holds(x, values); is != want {
		t.Errorf("Holds(%v, %v) = %v", x, values, is)
	}
}

// expectRight expects of tests that they have no error.
func expectRight(t *testing.T, n int, l []api.Test) {
	t.Helper()
	if e := difference.Valid(n, l); e != api.OK {
		t.Errorf("Valid(%d, %v) = %d", n, l, e)
	}
	if _, e := difference.Solve(n, l); e != api.OK && e != api.ErrNone {
		t.Errorf("Solve(%d, %v) has the error %d", n, l, e)
	}
	if _, e := difference.Refute(n, l); e != api.OK && e != api.ErrNone {
		t.Errorf("Refute(%d, %v) has the error %d", n, l, e)
	}
	if _, e := difference.Reduce(n, l); e != api.OK {
		t.Errorf("Reduce(%d, %v) has the error %d", n, l, e)
	}
	expectImplies(t, n, l, le(c(0), c(0)), true)
}

// expectError expects of all functions the error of tests.
func expectError(t *testing.T, n int, l []api.Test, want api.Errno) {
	t.Helper()
	if e := difference.Valid(n, l); e != want {
		t.Errorf("Valid(%d, %v) = %d, want %d", n, l, e, want)
	}
	if values, e := difference.Solve(n, l); len(values) != 0 || e != want {
		t.Errorf("Solve(%d, %v) = %v, %d, want none, %d", n, l, values, e, want)
	}
	if r, e := difference.Refute(n, l); len(r) != 0 || e != want {
		t.Errorf("Refute(%d, %v) = %v, %d, want none, %d", n, l, r, e, want)
	}
	if remain, e := difference.Reduce(n, l); len(remain) != 0 || e != want {
		t.Errorf("Reduce(%d, %v) = %v, %d, want none, %d", n, l, remain, e, want)
	}
	for _, x := range tests(le(c(0), c(0)), le(c(1), c(0)), le(v(20, 0), c(0)), api.Test{}) {
		expectImpliesError(t, n, l, x, want)
	}
	for i := range l {
		expectCheck(t, n, l, forward(i), false)
	}
}

// The variables of the chapter's example.
const x, y = 0, 1

// P3.1: the chapter's examples.
func TestExamples(t *testing.T) {
	l := tests(le(v(x, 2), v(y, 0)), le(v(y, 0), c(5)))
	expectSolution(t, 2, l, -2, 0)
	expectImplies(t, 2, l, le(v(x, 0), c(3)), true)
	expectImplies(t, 2, l, le(v(x, 0), c(2)), false)
	expectRefutation(t, 2, append(l, le(c(4), v(x, 0))), forward(0, 1, 2))
}

// P3.1: no test, and no variable.
func TestNothing(t *testing.T) {
	for _, l := range [][]api.Test{nil, {}} {
		for n := range 13 {
			expectRight(t, n, l)
			expectSolution(t, n, l, make([]int, n)...)
			expectReduce(t, n, l, nil)
			expectCheck(t, n, l, nil, false)
			expectCheck(t, n, l, forward(0), false)
		}
		expectImplies(t, 0, l, le(c(3), c(3)), true)
		expectImplies(t, 0, l, le(c(3), c(2)), false)
		expectImplies(t, 0, l, eq(c(3), c(3)), true)
		expectImplies(t, 0, l, eq(c(2), c(3)), false)
		expectImplies(t, 1, l, le(v(0, 0), v(0, 0)), true)
		expectImplies(t, 1, l, le(v(0, 0), c(1000000)), false)
	}
	expectSolution(t, 0, tests(le(c(-1), c(0)), eq(c(7), c(7))))
	expectRefutation(t, 0, tests(le(c(7), c(7)), le(c(1), c(0))), forward(1))
	expectRefutation(t, 0, tests(eq(c(1), c(0))), forward(0))
	expectRefutation(t, 0, tests(eq(c(0), c(1))), uses(0, -1))
	expectReduce(t, 0, tests(le(c(0), c(0)), eq(c(1), c(1)), le(c(2), c(1)), le(c(3), c(1))), tests(le(c(2), c(1))))
}

// P3.1: standard solutions are the greatest values of all places, less that of the place without a variable.
func TestSolutions(t *testing.T) {
	expectSolution(t, 1, tests(le(c(4), v(0, 0))), 4)
	expectSolution(t, 1, tests(le(v(0, 0), c(4))), 0)
	expectSolution(t, 1, tests(le(v(0, 0), c(-4))), -4)
	expectSolution(t, 1, tests(eq(v(0, 3), c(-4))), -7)
	expectSolution(t, 1, tests(le(v(0, 0), v(0, 0)), le(v(0, -1), v(0, 5))), 0)
	expectSolution(t, 2, tests(eq(c(-4), v(0, 3))), -7, 0)
	expectSolution(t, 2, tests(eq(v(0, 0), c(7))), 7, 7)
	expectSolution(t, 2, tests(le(v(0, 3), v(1, 0))), -3, 0)
	expectSolution(t, 2, tests(le(v(1, 3), v(0, 0))), 0, -3)
	expectSolution(t, 3, tests(le(c(2), v(0, 0)), le(v(1, 0), c(-3))), 2, -3, 2)
	// A later test bounds a place that earlier ones go on to.
	expectSolution(t, 4, tests(le(v(3, 1), v(2, 0)), le(v(2, 1), v(1, 0)), le(v(1, 1), v(0, 0)), le(v(0, 1), c(0))), -1, -2, -3, -4)
	expectSolution(t, 4, tests(le(v(0, 1), c(0)), le(v(1, 1), v(0, 0)), le(v(2, 1), v(1, 0)), le(v(3, 1), v(2, 0))), -1, -2, -3, -4)
	// Closed walks with the sum 0 refute nothing.
	expectSolution(t, 2, tests(le(v(0, 5), v(1, 0)), le(v(1, 0), v(0, 5))), -5, 0)
	expectSolution(t, 2, tests(eq(v(0, 0), v(1, 3)), eq(v(1, 0), c(4)), eq(c(7), v(0, 0))), 7, 4)
}

// P3.1: standard refutations are the first ones by length, then by tests, then by signs.
func TestRefutations(t *testing.T) {
	expectRefutation(t, 1, tests(le(v(0, 1), v(0, 0))), forward(0))
	expectRefutation(t, 1, tests(eq(v(0, 0), v(0, 1))), uses(0, -1))
	expectRefutation(t, 1, tests(eq(v(0, 1), v(0, 0))), uses(0, 1))
	expectRefutation(t, 1, tests(eq(v(0, 0), c(1)), eq(v(0, 0), c(2))), uses(0, 1, 1, -1))
	expectRefutation(t, 1, tests(eq(v(0, 0), c(2)), eq(v(0, 0), c(1))), uses(0, -1, 1, 1))
	// The places of the refutation are met in the order of the uses, whichever test comes first.
	expectRefutation(t, 2, tests(le(c(4), v(x, 0)), le(v(y, 0), c(5)), le(v(x, 2), v(y, 0))), forward(0, 2, 1))
	// A shorter refutation comes before a longer one, although its tests come later.
	expectRefutation(t, 2, tests(le(v(0, 1), v(1, 0)), le(v(1, 0), v(0, 0)), le(v(1, 2), v(1, 0))), forward(2))
	// The first tests that lead on count, although others are stronger.
	expectRefutation(t, 2, tests(le(v(0, 1), v(1, 0)), le(v(0, 9), v(1, 0)), le(v(1, 9), v(0, 0)), le(v(1, 0), v(0, 0))), forward(0, 2))
	expectRefutation(t, 2, tests(le(v(0, 1), v(1, 0)), le(v(0, 9), v(1, 0)), le(v(1, 0), v(0, 1)), le(v(1, 0), v(0, 0))), forward(0, 3))
	expectRefutation(t, 2, tests(le(v(0, 1), v(1, 0)), le(v(0, 9), v(1, 0)), le(v(1, 0), v(0, 1))), forward(1, 2))
	// An equality is used as it stands before it is turned around.
	expectRefutation(t, 1, tests(eq(v(0, 0), c(0)), le(v(0, 1), c(0)), le(c(1), v(0, 0))), uses(0, 1, 2, 1))
	expectRefutation(t, 1, tests(eq(v(0, 0), c(0)), le(v(0, 1), c(0))), uses(0, -1, 1, 1))
	// The same test is used twice where no variable leads back otherwise.
	expectRefutation(t, 2, tests(eq(v(0, 0), v(1, 3)), eq(v(1, 0), v(0, 1))), uses(0, -1, 1, -1))
	// All tests together are needed, for as many uses as there are places.
	var chain []api.Test
	var want []int
	for i := range 12 {
		chain = append(chain, le(v(i-1, 1), v(i, 0)))
		want = append(want, i)
	}
	expectRefutation(t, 12, append(chain, le(v(11, 0), c(11))), forward(append(want, 12)...))
	expectSolution(t, 12, append(chain, le(v(11, 0), c(12))), 1, 2, 3, 4, 5, 6, 7, 8, 9, 10, 11, 12)
}

// P3.1: a list refutes tests if its uses lead from one to the next and back to the first, and their sum is negative.
func TestCheckRefute(t *testing.T) {
	l := tests(le(v(0, 2), v(1, 0)), le(v(1, 0), c(5)), le(c(4), v(0, 0)), eq(v(0, 0), v(1, 0)), le(v(0, 1), v(0, 0)), le(v(1, 0), v(0, 2)))
	for _, r := range [][]api.Use{
		forward(0, 1, 2), forward(1, 2, 0), forward(2, 0, 1), forward(0, 1, 2, 0, 1, 2),
		uses(0, 1, 3, -1), uses(3, -1, 0, 1), forward(4), forward(4, 4, 4), slices.Repeat(forward(4), 40),
		slices.Repeat(uses(0, 1, 3, -1), 20), append(slices.Repeat(uses(3, 1, 3, -1), 19), uses(0, 1, 3, -1)...),
		forward(0, 5, 4), forward(4, 0, 5), forward(5, 4, 0), uses(0, 1, 1, 1, 2, 1, 3, 1, 3, -1),
	} {
		expectCheck(t, 2, l, r, true)
	}
	for _, r := range [][]api.Use{
		nil, {}, forward(0), forward(0, 1), forward(1, 2), forward(0, 2, 1), forward(0, 0), forward(2, 1, 0),
		uses(3, 1, 3, -1), uses(3, 1, 3, 1), uses(0, 1, 3, 1), uses(0, 1, 0, -1), uses(0, -1), uses(4, -1), uses(4, 1, 4, -1),
		forward(0, 5), forward(5, 0), forward(0, 1, 2, 0), forward(4, 1, 2), forward(0, 4, 5), forward(0, 5, 1, 4),
		forward(-1), forward(6), forward(math.MaxInt), forward(math.MinInt), forward(4, 6), forward(4, -1), forward(6, 4),
		uses(4, 0), uses(4, 2), uses(4, -2), uses(4, math.MaxInt), uses(4, math.MinInt), uses(4, 1, 4, 0), uses(0, 1, 3, -2), uses(0, 1, 3, 0),
		// No such use is taken for one that stays at its place, with or without a variable.
		forward(0, 1, 6, 2), forward(0, 1, -1, 2), uses(0, 1, 1, 1, 1, -1, 2, 1), uses(0, 1, 1, 1, 1, 0, 2, 1), uses(0, 1, 1, 1, 3, 2, 2, 1), uses(4, 1, 4, -1, 4, 1),
		slices.Repeat(forward(4), 41), slices.Repeat(uses(0, 1, 3, -1), 21), slices.Repeat(forward(4), 100000),
	} {
		expectCheck(t, 2, l, r, false)
	}
	r := forward(4)
	expectCheck(t, 1, l, r, false)
	expectCheck(t, 13, l, r, false)
	expectCheck(t, -1, l, r, false)
	expectCheck(t, 12, slices.Repeat(l[4:5], 40), forward(39), true)
	expectCheck(t, 12, slices.Repeat(l[4:5], 41), forward(39), false)
	expectCheck(t, 2, append(l, api.Test{}), r, false)
	expectCheck(t, 2, append(l, le(c(0), c(1000001))), r, false)
	expectCheck(t, 2, append(l, le(v(2, 0), c(0))), r, false)
}

// P3.1: tests that others imply.
func TestImplied(t *testing.T) {
	l := tests(le(v(0, 2), v(1, 0)), le(v(1, 0), c(5)), le(c(-9), v(0, 0)))
	for _, x := range append(tests(
		le(v(0, 0), c(3)), le(v(0, 0), c(4)), le(v(0, 0), v(1, 0)), le(v(0, 2), v(1, 1)), le(c(-7), v(1, 0)), le(v(1, 0), v(0, 14)),
		le(v(2, 0), v(2, 0)), le(v(2, 3), v(2, 4)), eq(v(2, 3), v(2, 3)), eq(c(0), c(0)), le(v(1, -5), c(0)), le(v(1, 0), v(0, 20)),
	), l...) {
		expectImplies(t, 3, l, x, true)
	}
	for _, x := range tests(
		le(v(0, 0), c(2)), le(v(0, 3), v(1, 0)), le(c(-6), v(1, 0)), le(v(1, 0), v(0, 13)), le(v(2, 0), c(1000000)), le(c(-1000000), v(2, 0)),
		le(v(2, 0), v(0, 1000000)), le(v(2, 1), v(2, 0)), eq(v(2, 0), v(2, 1)), eq(v(2, 1), v(2, 0)), eq(v(0, 2), v(1, 0)), le(c(1), c(0)), eq(v(1, 0), c(5)), eq(c(5), v(1, 0)),
	) {
		expectImplies(t, 3, l, x, false)
	}
	// An equality is implied by two tests together, and implies both of them.
	two := tests(le(v(0, 2), v(1, 0)), le(v(1, 0), v(0, 2)))
	for _, x := range tests(eq(v(0, 2), v(1, 0)), eq(v(1, 0), v(0, 2)), eq(v(0, 0), v(1, -2))) {
		expectImplies(t, 2, two, x, true)
		expectImplies(t, 2, two, eq(x.Left, v(1, 1)), false)
		for _, one := range two {
			expectImplies(t, 2, tests(x), one, true)
			expectImplies(t, 2, tests(one), x, false)
		}
	}
	// Tests without a solution imply any test.
	for _, x := range tests(le(c(1), c(0)), eq(v(1, 0), v(0, 17)), le(v(1, 0), c(-1000000)), le(v(0, 0), v(0, 0))) {
		expectImplies(t, 2, tests(eq(v(0, 1), v(0, 0))), x, true)
	}
}

// P3.1: a test remains if the ones that remained before do not imply it.
func TestReduce(t *testing.T) {
	weak, strong := le(v(0, 0), c(7)), le(v(0, 0), c(5))
	expectReduce(t, 1, tests(strong, weak), tests(strong))
	expectReduce(t, 1, tests(weak, strong), tests(weak, strong))
	expectReduce(t, 1, tests(weak, weak, strong, weak, strong), tests(weak, strong))
	expectReduce(t, 2, tests(strong, le(v(1, 0), v(0, 0)), weak, le(v(1, 0), c(5)), le(v(1, 0), c(4))), tests(strong, le(v(1, 0), v(0, 0)), le(v(1, 0), c(4))))
	// Three tests of which any two imply the other one: the last one goes.
	ring := tests(eq(v(0, 0), v(1, 0)), eq(v(1, 0), v(2, 0)), eq(v(2, 0), v(0, 0)))
	expectReduce(t, 3, ring, ring[:2])
	expectReduce(t, 3, tests(ring[2], ring[1], ring[0]), tests(ring[2], ring[1]))
	// Behind tests without a solution none remains.
	expectReduce(t, 2, tests(strong, le(c(6), v(0, 0)), le(v(1, 0), c(0)), le(c(1), c(0)), weak), tests(strong, le(c(6), v(0, 0))))
	same := slices.Repeat(tests(strong), 40)
	expectReduce(t, 1, same, same[:1])
}

// P3.1: values satisfy a test if it has a Kind and its variables have values.
func TestHolds(t *testing.T) {
	expectHolds(t, le(v(0, 2), v(1, 0)), []int{1, 3}, true)
	expectHolds(t, le(v(0, 2), v(1, 0)), []int{1, 2}, false)
	expectHolds(t, le(v(0, 2), v(1, 0)), []int{1, 4}, true)
	expectHolds(t, eq(v(0, 2), v(1, 0)), []int{1, 3}, true)
	expectHolds(t, eq(v(0, 2), v(1, 0)), []int{1, 2}, false)
	expectHolds(t, eq(v(0, 2), v(1, 0)), []int{1, 4}, false)
	expectHolds(t, le(c(1), c(1)), nil, true)
	expectHolds(t, le(c(2), c(1)), []int{}, false)
	expectHolds(t, eq(c(-1), c(-1)), nil, true)
	expectHolds(t, le(v(20, 0), v(14, 0)), make([]int, 21), true)
	for _, wrong := range []int{-2, 2, 3, math.MinInt, math.MaxInt} {
		expectHolds(t, le(v(wrong, 0), c(1000000)), []int{0, 0}, false)
		expectHolds(t, le(c(-1000000), v(wrong, 0)), []int{0, 0}, false)
		expectHolds(t, eq(v(wrong, 0), v(wrong, 0)), []int{0, 0}, false)
		expectHolds(t, eq(c(0), v(wrong, 0)), []int{0, 0}, false)
		expectHolds(t, eq(v(wrong, 0), c(0)), []int{0, 0}, false)
	}
	expectHolds(t, le(v(0, 0), v(0, 0)), nil, false)
	for _, kind := range []int{-1, 0, 3, 4, math.MinInt, math.MaxInt} {
		expectHolds(t, api.Test{Kind: kind, Left: c(0), Right: c(0)}, nil, false)
		expectHolds(t, api.Test{Kind: kind, Left: v(0, 0), Right: c(1)}, []int{0}, false)
	}
}

// P3.1: values stand for integers without bounds, so that no sum is too large.
func TestHoldsOfLargeValues(t *testing.T) {
	large := []int{math.MinInt, math.MinInt + 1, -1000000, -1, 0, 1, 1000000, math.MaxInt - 1, math.MaxInt}
	sum := func(a, b int) *big.Int {
		return new(big.Int).Add(big.NewInt(int64(a)), big.NewInt(int64(b)))
	}
	for _, left := range large {
		for _, i := range large {
			for _, right := range large {
				for _, k := range large {
					order := sum(left, i).Cmp(sum(right, k))
					expectHolds(t, le(v(0, i), v(1, k)), []int{left, right}, order <= 0)
					expectHolds(t, eq(v(0, i), v(1, k)), []int{left, right}, order == 0)
				}
			}
		}
	}
}

// P3.1: the bounds of n, of the number of tests, of variables and of numbers.
func TestBounds(t *testing.T) {
	right, wrong := le(v(11, 1000000), c(-1000000)), api.Test{}
	for _, n := range []int{-1, 13, 14, math.MinInt, math.MaxInt} {
		expectError(t, n, nil, api.ErrRange)
		expectError(t, n, make([]api.Test, 41), api.ErrRange)
		expectError(t, n, tests(wrong), api.ErrRange)
	}
	for n := range 13 {
		expectRight(t, n, slices.Repeat(tests(le(c(0), v(n-1, 0))), 40))
		for _, many := range []int{41, 42, 1000} {
			expectError(t, n, slices.Repeat(tests(le(c(0), c(0))), many), api.ErrTooLarge)
			expectError(t, n, make([]api.Test, many), api.ErrTooLarge)
		}
		for _, i := range []int{-2, n, n + 1, math.MinInt, math.MaxInt} {
			expectError(t, n, tests(le(v(i, 0), c(0))), api.ErrRange)
			expectError(t, n, tests(eq(c(0), v(i, 0))), api.ErrRange)
		}
	}
	expectRight(t, 12, tests(right, eq(c(1000000), v(0, -1000000))))
	for _, add := range []int{-1000001, 1000001, math.MinInt, math.MaxInt} {
		expectError(t, 1, tests(le(v(0, add), c(0))), api.ErrRange)
		expectError(t, 1, tests(eq(c(0), v(0, add))), api.ErrRange)
		expectError(t, 1, tests(eq(c(add), c(add))), api.ErrRange)
	}
	expectError(t, 12, make([]api.Test, 40), api.ErrInvalid)
	for _, kind := range []int{-1, 0, 3, math.MinInt, math.MaxInt} {
		expectError(t, 12, tests(right, api.Test{Kind: kind, Left: c(0), Right: c(0)}), api.ErrInvalid)
		expectError(t, 12, tests(api.Test{Kind: kind, Left: v(12, 0), Right: c(1000001)}), api.ErrInvalid)
	}
}

// P3.1: the first test with an error decides; the test that may be implied comes last.
func TestErrorOrder(t *testing.T) {
	right, invalid, far := le(v(0, 0), c(0)), api.Test{Left: c(0), Right: c(0)}, le(v(2, 0), c(0))
	expectError(t, 2, tests(invalid, far), api.ErrInvalid)
	expectError(t, 2, tests(far, invalid), api.ErrRange)
	expectError(t, 2, tests(right, right, invalid, right, far), api.ErrInvalid)
	expectError(t, 2, tests(right, right, far, right, invalid), api.ErrRange)
	expectError(t, 2, append(slices.Repeat(tests(right), 39), far), api.ErrRange)
	for _, l := range [][]api.Test{nil, tests(right), tests(le(c(1), c(0))), slices.Repeat(tests(right), 40)} {
		for _, kind := range []int{-1, 0, 3} {
			expectImpliesError(t, 2, l, api.Test{Kind: kind}, api.ErrInvalid)
			expectImpliesError(t, 2, l, api.Test{Kind: kind, Left: v(2, 0)}, api.ErrInvalid)
		}
		for _, x := range tests(far, le(v(-2, 0), c(0)), eq(c(0), v(2, 0)), le(c(1000001), c(0)), eq(c(0), v(0, -1000001))) {
			expectImpliesError(t, 2, l, x, api.ErrRange)
		}
		expectImplies(t, 12, l, le(v(11, -1000000), v(11, 1000000)), true)
	}
	expectImpliesError(t, 2, tests(far), invalid, api.ErrRange)
	expectImpliesError(t, 2, tests(invalid), far, api.ErrInvalid)
}

// P3.1: the largest numbers, through all places.
func TestLargeNumbers(t *testing.T) {
	var up, down []api.Test
	var rising, falling []int
	for i := range 12 {
		up = append(up, le(v(i-1, 1000000), v(i, -1000000)))
		down = append(down, le(v(i, 1000000), v(i-1, -1000000)))
		rising = append(rising, 2000000*(i+1))
		falling = append(falling, -2000000*(i+1))
	}
	expectSolution(t, 12, up, rising...)
	expectSolution(t, 12, down, falling...)
	slices.Reverse(up)
	expectSolution(t, 12, up, rising...)
	slices.Reverse(down)
	expectSolution(t, 12, down, falling...)
	expectImplies(t, 12, up, le(v(0, 1000000), v(11, -1000000)), true)
	expectImplies(t, 12, up, eq(v(0, 0), c(1000000)), false)
	expectReduce(t, 12, up, up)
	expectRefutation(t, 12, append(up[:12:12], le(v(11, 1000000), c(-1000000))), forward(0, 12, 11, 10, 9, 8, 7, 6, 5, 4, 3, 2, 1))
	r := forward(0, 12, 11, 10, 9, 8, 7, 6, 5, 4, 3, 2, 1)
	expectCheck(t, 12, append(up[:12:12], le(v(11, 1000000), c(-1000000))), append(r, append(slices.Clone(r), r...)...), true)
}

// P3.1 and the section Rules: results share no memory with arguments or with one another.
func TestOwnMemory(t *testing.T) {
	for range 2 {
		l := tests(le(v(0, 0), c(5)), le(v(1, 0), v(0, 0)), le(c(6), v(1, 0)))
		same := slices.Clone(l)
		first, _ := difference.Reduce(2, l)
		second, _ := difference.Reduce(2, l)
		clear(first[:cap(first)])
		if !slices.Equal(second, same) || !slices.Equal(l, same) {
			t.Errorf("a result of Reduce is part of %v or %v", second, l)
		}
		r, _ := difference.Refute(2, l)
		again, _ := difference.Refute(2, l)
		clear(r[:cap(r)])
		if !slices.Equal(again, forward(0, 2, 1)) {
			t.Errorf("a result of Refute is part of %v", again)
		}
		values, _ := difference.Solve(2, l[:2])
		others, _ := difference.Solve(2, l[:2])
		for i := range values[:cap(values)] {
			values[:cap(values)][i] = 77
		}
		if !slices.Equal(others, []int{0, 0}) {
			t.Errorf("a result of Solve is part of %v", others)
		}
	}
	TestExamples(t)
}

package difference_test

import (
	"math/rand/v2"
	"slices"
	"testing"

	"scarfjoint/api"
	"scarfjoint/difference"
)

// arc is what a use says: the value of from is at most that of to, plus most. Variables are places, and so is -1.
type arc struct{ from, to, most int }

// arcOf returns what a use says, as the chapter defines it.
func arcOf(l []api.Test, u api.Use) arc {
	left, right := l[u.Test].Left, l[u.Test].Right
	if u.Sign == 1 {
		return arc{left.Var, right.Var, right.Add - left.Add}
	}
	return arc{right.Var, left.Var, left.Add - right.Add}
}

// allUses returns the uses of tests in the order of refutations.
func allUses(l []api.Test) []api.Use {
	var out []api.Use
	for i, x := range l {
		out = append(out, api.Use{Test: i, Sign: 1})
		if x.Kind == api.Equal {
			out = append(out, api.Use{Test: i, Sign: -1})
		}
	}
	return out
}

// refutes reports whether a list of uses that the tests have leads back to its beginning and has a negative sum.
func refutes(l []api.Test, r []api.Use) bool {
	if len(r) == 0 || len(r) > 40 {
		return false
	}
	sum, at := 0, arcOf(l, r[len(r)-1]).to
	for _, u := range r {
		x := arcOf(l, u)
		if x.from != at {
			return false
		}
		at = x.to
		sum += x.most
	}
	return sum < 0
}

// firstRefutation tries all lists of uses that lead from one to the next, by length, then in their order.
func firstRefutation(l []api.Test, longest int) []api.Use {
	all := allUses(l)
	var search func(r []api.Use, length int) []api.Use
	search = func(r []api.Use, length int) []api.Use {
		if len(r) == length {
			if refutes(l, r) {
				return slices.Clone(r)
			}
			return nil
		}
		for _, u := range all {
			if len(r) > 0 && arcOf(l, r[len(r)-1]).to != arcOf(l, u).from {
				continue
			}
			if found := search(append(r, u), length); found != nil {
				return found
			}
		}
		return nil
	}
	for length := 1; length <= longest; length++ {
		if r := search(nil, length); r != nil {
			return r
		}
	}
	return nil
}

// satisfied reports whether values satisfy tests: the one at the end is that of the place -1.
func satisfied(l []api.Test, values []int) bool {
	at := func(x api.Term) int {
		if x.Var < 0 {
			return values[len(values)-1] + x.Add
		}
		return values[x.Var] + x.Add
	}
	for _, x := range l {
		left, right := at(x.Left), at(x.Right)
		if left > right || left < right && x.Kind == api.Equal {
			return false
		}
	}
	return true
}

// choices visits all lists of n numbers from low to high.
func choices(n, low, high int, visit func(values []int)) {
	values := make([]int, n)
	var fill func(i int)
	fill = func(i int) {
		if i == n {
			visit(values)
			return
		}
		for values[i] = low; values[i] <= high; values[i]++ {
			fill(i + 1)
		}
	}
	fill(0)
}

// greatest returns the standard solution by trying all values of all places from low to 0.
func greatest(n int, l []api.Test, low int) ([]int, bool) {
	var most []int
	choices(n+1, low, 0, func(values []int) {
		if !satisfied(l, values) {
			return
		}
		if most == nil {
			most = slices.Clone(values)
		}
		for i := range most {
			most[i] = max(most[i], values[i])
		}
	})
	if most == nil {
		return nil, false
	}
	for i := range n {
		most[i] -= most[n]
	}
	return most[:n], true
}

// implied tries all values from -far to far.
func implied(n int, l []api.Test, x api.Test, far int) bool {
	is := true
	choices(n, -far, far, func(values []int) {
		values = append(values, 0)
		is = is && (!satisfied(l, values) || satisfied([]api.Test{x}, values))
	})
	return is
}

// expectAgreement expects of small tests all that the chapter defines, with the numbers of their uses from -most to most.
func expectAgreement(t *testing.T, n, most int, l []api.Test, x api.Test) {
	t.Helper()
	values, ok := greatest(n, l, -n*most)
	r := firstRefutation(l, n+1)
	if ok != (r == nil) {
		t.Fatalf("%v have the solution %v and the refutation %v", l, values, r)
	}
	if ok {
		expectSolution(t, n, l, values...)
	} else {
		expectRefutation(t, n, l, r)
	}
	// The opposite of a use has a number that is larger by 1.
	far := n * (most + 1)
	expectImplies(t, n, l, x, implied(n, l, x, far))
	var remain []api.Test
	for _, x := range l {
		if !implied(n, remain, x, far) {
			remain = append(remain, x)
		}
	}
	expectReduce(t, n, l, remain)
}

// smallTests returns all tests of n variables whose uses have the numbers from -most to most.
func smallTests(n, most int) []api.Test {
	var all []api.Test
	for _, kind := range []int{api.LessEqual, api.Equal} {
		for left := -1; left < n; left++ {
			for right := -1; right < n; right++ {
				for c := -most; c <= most; c++ {
					all = append(all, api.Test{Kind: kind, Left: v(left, max(-c, 0)), Right: v(right, max(c, 0))})
				}
			}
		}
	}
	return all
}

// random returns a sequence that is the same in every run.
func random(seed uint64) *rand.Rand {
	return rand.New(rand.NewPCG(3, seed))
}

// draw returns some of the tests.
func draw(r *rand.Rand, all []api.Test, some int) []api.Test {
	var l []api.Test
	for range some {
		l = append(l, all[r.IntN(len(all))])
	}
	return l
}

// P3.1: every one and every two of the small tests of one variable.
func TestAgreementOfOneVariable(t *testing.T) {
	all := smallTests(1, 2)
	for i, first := range all {
		expectAgreement(t, 1, 2, tests(first), all[len(all)-1-i])
		for k, second := range all {
			expectAgreement(t, 1, 2, tests(first, second), all[(i+k)%len(all)])
		}
	}
}

// P3.1: random small tests.
func TestAgreementOfFewVariables(t *testing.T) {
	r := random(1)
	for _, row := range []struct{ n, most, some, times int }{{0, 2, 4, 50}, {1, 2, 5, 2000}, {2, 2, 6, 1500}, {3, 1, 7, 150}} {
		all := smallTests(row.n, row.most)
		for range row.times {
			expectAgreement(t, row.n, row.most, draw(r, all, r.IntN(row.some)), all[r.IntN(len(all))])
		}
	}
}

// randomTests returns tests that some values satisfy; with a probability they satisfy a test but for its number.
func randomTests(r *rand.Rand, values []int, wrong float64) []api.Test {
	n := len(values)
	at := func(i int) int {
		if i < 0 {
			return 0
		}
		return values[i]
	}
	var l []api.Test
	for range r.IntN(41) {
		left, right := r.IntN(n+1)-1, r.IntN(n+1)-1
		c := at(left) - at(right)
		kind := api.Equal
		if r.IntN(4) > 0 {
			kind = api.LessEqual
			c += r.IntN(4) * r.IntN(4)
		}
		if r.Float64() < wrong {
			c -= 1 + r.IntN(3)
		}
		add := r.IntN(9) - 4
		l = append(l, api.Test{Kind: kind, Left: v(left, add), Right: v(right, c+add)})
	}
	return l
}

// randomValues returns values of 1 to 12 variables.
func randomValues(r *rand.Rand) []int {
	values := make([]int, 1+r.IntN(12))
	for i := range values {
		values[i] = r.IntN(41) - 20
	}
	return values
}

// distances returns the least sums of the walks from each place to each other one, none being 0; a place is a variable plus 1.
func distances(n int, l []api.Test) [14][14]int {
	const far = 1 << 40
	var d [14][14]int
	for i := range d {
		for k := range d {
			if i != k {
				d[i][k] = far
			}
		}
	}
	for _, u := range allUses(l) {
		x := arcOf(l, u)
		d[x.from+1][x.to+1] = min(d[x.from+1][x.to+1], x.most)
	}
	for via := range n + 1 {
		for i := range n + 1 {
			for k := range n + 1 {
				d[i][k] = min(d[i][k], d[i][via]+d[via][k])
			}
		}
	}
	return d
}

// P3.1: standard solutions and implied tests agree with the distances of places, for up to 12 variables.
func TestAgreementOfManyVariables(t *testing.T) {
	r := random(2)
	for range 2000 {
		planted := randomValues(r)
		n := len(planted)
		l := randomTests(r, planted, 0)
		d := distances(n, l)
		want := make([]int, n)
		for i := range want {
			want[i] = slices.Min(d[i+1][:n+1]) - slices.Min(d[0][:n+1])
		}
		expectSolution(t, n, l, want...)
		for range 20 {
			left, right := r.IntN(n+1)-1, r.IntN(n+1)-1
			c := min(d[left+1][right+1], 1000) + r.IntN(3) - 1
			expectImplies(t, n, l, le(v(left, 0), v(right, c)), d[left+1][right+1] <= c)
			expectImplies(t, n, l, eq(v(left, 0), v(right, c)), d[left+1][right+1] <= c && d[right+1][left+1] <= -c)
		}
	}
}

// P3.1: standard refutations of up to 13 uses, where few tests begin at each place.
func TestLongRefutations(t *testing.T) {
	r := random(3)
	for range 300 {
		n := 1 + r.IntN(12)
		order := r.Perm(n + 1)
		var l []api.Test
		for i, place := range order {
			next := order[(i+1)%len(order)]
			x := le(v(place-1, r.IntN(3)), v(next-1, r.IntN(2)))
			if r.IntN(2) == 0 {
				x = eq(x.Left, x.Right)
			}
			l = append(l, x)
			if r.IntN(4) == 0 {
				l = append(l, le(x.Left, v(next-1, r.IntN(3))))
			}
		}
		r.Shuffle(len(l), func(i, k int) { l[i], l[k] = l[k], l[i] })
		if want := firstRefutation(l, n+1); want != nil {
			expectRefutation(t, n, l, want)
		} else if _, e := difference.Solve(n, l); e != api.OK {
			t.Errorf("%v have no solution and no refutation", l)
		}
	}
}

// P3.1: lists of uses are accepted exactly if they refute.
func TestAgreementOfChecks(t *testing.T) {
	r := random(4)
	accepted := 0
	for range 20000 {
		l := draw(r, smallTests(1, 1), 1+r.IntN(3))
		all := allUses(l)
		var list []api.Use
		for range r.IntN(5) {
			list = append(list, all[r.IntN(len(all))])
		}
		list = slices.Repeat(list, 1+r.IntN(14))
		is := refutes(l, list)
		expectCheck(t, 1, l, list, is)
		if is {
			accepted++
		}
	}
	if accepted < 1000 {
		t.Errorf("only %d lists refute", accepted)
	}
}

// P3.2: tests have either a solution or a refutation; the standard solution satisfies all tests.
func TestSolutionOrRefutation(t *testing.T) {
	r := random(5)
	solved := 0
	for range 3000 {
		planted := randomValues(r)
		n, l := len(planted), randomTests(r, planted, 0.05)
		values, e := difference.Solve(n, l)
		list, f := difference.Refute(n, l)
		switch {
		case e == api.OK && f == api.ErrNone:
			solved++
			expectSolution(t, n, l, values...)
		case e == api.ErrNone && f == api.OK:
			if !refutes(l, list) || !difference.CheckRefute(n, l, list) {
				t.Fatalf("%v do not refute %v", list, l)
			}
		default:
			t.Fatalf("%v: Solve has the error %d, and Refute %d", l, e, f)
		}
	}
	if solved < 500 || solved > 2500 {
		t.Errorf("%d of the tests have a solution", solved)
	}
}

// opposites returns the tests of which one holds exactly if x does not.
func opposites(x api.Test) []api.Test {
	less := func(a, b api.Term) api.Test { return le(v(a.Var, a.Add+1), b) }
	if x.Kind == api.LessEqual {
		return tests(less(x.Right, x.Left))
	}
	return tests(less(x.Right, x.Left), less(x.Left, x.Right))
}

// P3.2: a test is implied exactly if no solution satisfies the other tests together with its opposite.
func TestOpposites(t *testing.T) {
	r := random(6)
	times := map[bool]int{}
	for range 3000 {
		planted := randomValues(r)
		n, l := len(planted), randomTests(r, planted, 0.01)
		l = l[:min(len(l), 39)]
		others := randomTests(r, planted, 0.2)
		for _, x := range others[:min(len(others), 5)] {
			want := true
			for _, y := range opposites(x) {
				_, e := difference.Solve(n, append(slices.Clip(l), y))
				want = want && e == api.ErrNone
			}
			expectImplies(t, n, l, x, want)
			times[want]++
		}
	}
	if times[true] < 1000 || times[false] < 1000 {
		t.Errorf("implied or not: %v", times)
	}
}

// P3.2: the tests that remain imply those that do not, and none of them is implied by the ones before it.
func TestRemaining(t *testing.T) {
	r := random(7)
	for range 1000 {
		planted := randomValues(r)
		n, l := len(planted), randomTests(r, planted, 0.02)
		remain, e := difference.Reduce(n, l)
		if e != api.OK {
			t.Fatalf("Reduce(%d, %v) has the error %d", n, l, e)
		}
		for _, x := range l {
			expectImplies(t, n, remain, x, true)
		}
		for i, x := range remain {
			expectImplies(t, n, remain[:i], x, false)
		}
		expectReduce(t, n, remain, remain)
		values, e := difference.Solve(n, l)
		others, f := difference.Solve(n, remain)
		if !slices.Equal(values, others) || e != f {
			t.Fatalf("%v have the solution %v, %d, and with the tests that remain %v, %d", l, values, e, others, f)
		}
	}
}

// P3.2: tests that some values satisfy have a solution, and imply nothing that these values do not satisfy.
func TestSatisfied(t *testing.T) {
	r := random(8)
	for range 2000 {
		planted := randomValues(r)
		n, l := len(planted), randomTests(r, planted, 0)
		for _, x := range l {
			expectHolds(t, x, planted, true)
		}
		if _, e := difference.Solve(n, l); e != api.OK {
			t.Fatalf("Solve(%d, %v) has the error %d, but %v is a solution", n, l, e, planted)
		}
		for _, x := range randomTests(r, planted, 0.5) {
			if is, e := difference.Implies(n, l, x); e != api.OK || is && !difference.Holds(x, planted) {
				t.Fatalf("%v imply %v, which %v do not satisfy, with the error %d", l, x, planted, e)
			}
		}
	}
}

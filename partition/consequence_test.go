package partition_test

import (
	"math/rand/v2"
	"slices"
	"testing"

	"scarfjoint/api"
	"scarfjoint/partition"
)

// relation says which elements are equivalent.
type relation [][]bool

// identity returns the relation of n elements that are equivalent to themselves only.
func identity(n int) relation {
	r := make(relation, n)
	for i := range r {
		r[i] = make([]bool, n)
		r[i][i] = true
	}
	return r
}

// relate returns the relation of a list: equal numbers are equivalent.
func relate(p []int) relation {
	r := identity(len(p))
	for i := range p {
		for k := range p {
			r[i][k] = p[i] == p[k]
		}
	}
	return r
}

// close makes a relation symmetric and transitive.
func (r relation) close() relation {
	for i := range r {
		for k := range r {
			r[i][k] = r[i][k] || r[k][i]
		}
	}
	for via := range r {
		for i := range r {
			for k := range r {
				r[i][k] = r[i][k] || r[i][via] && r[via][k]
			}
		}
	}
	return r
}

// combine returns the relation that holds where a function of two relations does.
func combine(a, b relation, f func(x, y bool) bool) relation {
	r := identity(len(a))
	for i := range r {
		for k := range r {
			r[i][k] = f(a[i][k], b[i][k])
		}
	}
	return r
}

// within reports whether all that are equivalent in r are so in s.
func (r relation) within(s relation) bool {
	for i := range r {
		for k := range r {
			if r[i][k] && !s[i][k] {
				return false
			}
		}
	}
	return true
}

// list returns the least equivalent element of each element.
func (r relation) list() []int {
	var p []int
	for i := range r {
		p = append(p, slices.Index(r[i], true))
	}
	return p
}

// lists returns all lists of n numbers from low to high, lexicographically.
func lists(n, low, high int) [][]int {
	all := [][]int{nil}
	for range n {
		var longer [][]int
		for _, l := range all {
			for x := low; x <= high; x++ {
				longer = append(longer, append(slices.Clone(l), x))
			}
		}
		all = longer
	}
	return all
}

// isPartition reports whether each number is the least element of a class.
func isPartition(p []int) bool {
	return slices.Equal(p, relate(p).list())
}

// random returns a sequence that is the same in every run.
func random(seed uint64) *rand.Rand {
	return rand.New(rand.NewPCG(2, seed))
}

// randomPairs returns some pairs of the numbers from 0 to n - 1.
func randomPairs(r *rand.Rand, n int) []api.Pair {
	var l []api.Pair
	for range r.IntN(n + 2) {
		l = append(l, api.Pair{A: r.IntN(n), B: r.IntN(n)})
	}
	return l
}

// randomPartition returns a partition with fine classes or with coarse ones.
func randomPartition(r *rand.Rand, n int) []int {
	p := identity(n)
	for range r.IntN(n + 2) {
		p[r.IntN(n)][r.IntN(n)] = true
	}
	return p.close().list()
}

// both returns what Join or Meet returns for two partitions.
func both(t *testing.T, f func(a, b []int) ([]int, api.Errno), a, b []int) []int {
	t.Helper()
	p, e := f(a, b)
	if e != api.OK {
		t.Fatalf("%v and %v have the error %d", a, b, e)
	}
	return p
}

func join(t *testing.T, a, b []int) []int {
	t.Helper()
	return both(t, partition.Join, a, b)
}

func meet(t *testing.T, a, b []int) []int {
	t.Helper()
	return both(t, partition.Meet, a, b)
}

// P2.1: Valid and All agree with the definition of a partition.
func TestEveryList(t *testing.T) {
	for n := range 5 {
		for _, p := range lists(n, -1, n) {
			if partition.Valid(p) != isPartition(p) {
				t.Errorf("Valid(%v) is %v", p, !isPartition(p))
			}
		}
	}
	for n := range 8 {
		want := lists(n, 0, max(n-1, 0))
		want = slices.DeleteFunc(want, func(p []int) bool { return !isPartition(p) })
		if l, e := partition.All(n); !equal(l, want) || e != api.OK {
			t.Errorf("All(%d) = %d partitions, %d, want %d, 0", n, len(l), e, len(want))
		}
	}
}

// expectAgreement expects of two partitions what the relations define, and of the first one its classes.
func expectAgreement(t *testing.T, a, b []int) {
	t.Helper()
	x, y := relate(a), relate(b)
	expectJoin(t, a, b, combine(x, y, func(i, k bool) bool { return i || k }).close().list())
	expectMeet(t, a, b, combine(x, y, func(i, k bool) bool { return i && k }).list())
	expectFiner(t, a, b, x.within(y))
	var classes [][]int
	index := make([]int, len(a))
	for i := range a {
		if a[i] != i {
			continue
		}
		var class []int
		for k := range a {
			if x[i][k] {
				class = append(class, k)
				index[k] = len(classes)
			}
		}
		classes = append(classes, class)
	}
	expectClasses(t, a, classes...)
	expectQuotient(t, a, len(classes), index...)
}

// P2.1: the functions of partitions agree with the definitions, for few elements.
func TestAgreementOfFew(t *testing.T) {
	for n := range 6 {
		all, _ := partition.All(n)
		for _, a := range all {
			for _, b := range all {
				expectAgreement(t, a, b)
			}
		}
	}
}

// P2.1: the functions of partitions and Generate agree with the definitions, for up to 80 elements.
func TestAgreementOfMany(t *testing.T) {
	r := random(1)
	for range 500 {
		n := 1 + r.IntN(80)
		expectAgreement(t, randomPartition(r, n), randomPartition(r, n))
		l := randomPairs(r, n)
		related := identity(n)
		for _, x := range l {
			related[x.A][x.B] = true
		}
		expectGenerate(t, n, l, related.close().list())
	}
}

// P2.2: the join is the finest common coarser partition, and the meet the coarsest common finer one.
func TestBounds(t *testing.T) {
	for n := range 6 {
		all, _ := partition.All(n)
		for _, a := range all {
			for _, b := range all {
				above, below := join(t, a, b), meet(t, a, b)
				if !partition.Valid(above) || !partition.Valid(below) {
					t.Fatalf("%v and %v have the join %v and the meet %v", a, b, above, below)
				}
				for _, c := range all {
					expectFiner(t, above, c, partition.Finer(a, c) && partition.Finer(b, c))
					expectFiner(t, c, below, partition.Finer(c, a) && partition.Finer(c, b))
				}
			}
		}
	}
}

// expectLaws expects of three partitions the laws of a lattice, and of its order.
func expectLaws(t *testing.T, a, b, c []int) {
	t.Helper()
	above, below := join(t, a, b), meet(t, a, b)
	for _, x := range [][]int{a, b} {
		expectFiner(t, x, x, true)
		expectFiner(t, x, above, true)
		expectFiner(t, below, x, true)
		expectJoin(t, x, below, x)
		expectMeet(t, x, above, x)
	}
	expectJoin(t, b, a, above)
	expectMeet(t, b, a, below)
	expectJoin(t, above, c, join(t, a, join(t, b, c)))
	expectMeet(t, below, c, meet(t, a, meet(t, b, c)))
	finer := partition.Finer(a, b)
	if finer && partition.Finer(b, a) != slices.Equal(a, b) {
		t.Errorf("%v and %v are finer than each other", a, b)
	}
	if finer && partition.Finer(b, c) {
		expectFiner(t, a, c, true)
	}
	if finer != slices.Equal(above, b) || finer != slices.Equal(below, a) {
		t.Errorf("Finer(%v, %v) = %v", a, b, finer)
	}
}

// P2.2: Join and Meet are commutative, associative and absorb one another; being finer is a partial order.
func TestLattice(t *testing.T) {
	for n := range 5 {
		all, _ := partition.All(n)
		for _, a := range all {
			for _, b := range all {
				for _, c := range all {
					expectLaws(t, a, b, c)
				}
			}
		}
	}
	r := random(2)
	for range 300 {
		n := 1 + r.IntN(80)
		a, b, c := randomPartition(r, n), randomPartition(r, n), randomPartition(r, n)
		expectLaws(t, a, b, c)
		expectLaws(t, a, join(t, a, b), join(t, join(t, a, b), c))
	}
}

// P2.2: what Generate returns does not depend on the order of pairs, and is the join of what parts of them generate.
func TestGenerateOrderAndParts(t *testing.T) {
	r := random(3)
	for range 1000 {
		n := 1 + r.IntN(80)
		l := randomPairs(r, n)
		want, e := partition.Generate(n, l)
		if e != api.OK {
			t.Fatalf("Generate(%d, %v): %d", n, l, e)
		}
		cut := r.IntN(len(l) + 1)
		first, _ := partition.Generate(n, l[:cut])
		second, _ := partition.Generate(n, l[cut:])
		expectJoin(t, first, second, want)
		shuffled := slices.Clone(l)
		r.Shuffle(len(l), func(i, k int) { shuffled[i], shuffled[k] = shuffled[k], shuffled[i] })
		for k := range shuffled {
			if r.IntN(2) == 0 {
				shuffled[k].A, shuffled[k].B = shuffled[k].B, shuffled[k].A
			}
		}
		before := slices.Clone(shuffled)
		expectGenerate(t, n, shuffled, want)
		expectGenerate(t, n, append(shuffled, l...), want)
		if !slices.Equal(before, shuffled) {
			t.Fatalf("Generate changed %v to %v", before, shuffled)
		}
	}
}

// P2.2: elements are equivalent exactly if they have the same index in the quotient.
func TestQuotientIndices(t *testing.T) {
	r := random(4)
	for range 500 {
		p := randomPartition(r, 1+r.IntN(80))
		before := slices.Clone(p)
		index, n, e := partition.Quotient(p)
		classes, f := partition.Classes(p)
		if e != api.OK || f != api.OK || len(classes) != n || len(index) != len(p) {
			t.Fatalf("%v has the quotient %v, %d, %d and the classes %v, %d", p, index, n, e, classes, f)
		}
		for i := range p {
			for k := range p {
				if (p[i] == p[k]) != (index[i] == index[k]) {
					t.Fatalf("%v has the quotient %v", p, index)
				}
			}
			if !slices.Contains(classes[index[i]], i) {
				t.Fatalf("%v has the quotient %v and the classes %v", p, index, classes)
			}
		}
		if !slices.Equal(p, before) {
			t.Fatalf("%v was changed to %v", before, p)
		}
	}
}

// P1: the functions terminate and do not panic; with an error, the other results are zero.
func TestAnyArguments(t *testing.T) {
	r := random(5)
	draw := func() []int {
		l := make([]int, r.IntN(4))
		if r.IntN(20) == 0 {
			l = make([]int, 78+r.IntN(5))
		}
		for i := range l {
			l[i] = r.IntN(i+2) - r.IntN(20)/19
		}
		return l
	}
	for range 5000 {
		a, b := draw(), draw()
		first, second := slices.Clone(a), slices.Clone(b)
		joined, e := partition.Join(a, b)
		met, f := partition.Meet(a, b)
		if e != f || e != api.OK && len(joined)+len(met) != 0 || e == api.OK && (len(joined) != len(a) || len(met) != len(a)) {
			t.Fatalf("%v and %v have the join %v, %d and the meet %v, %d", a, b, joined, e, met, f)
		}
		right := partition.Valid(a)
		classes, e := partition.Classes(a)
		index, n, f := partition.Quotient(a)
		if e != f || right != (e == api.OK) || !right && len(classes)+len(index)+n != 0 {
			t.Fatalf("%v has the quotient %v, %d, %d and the classes %v, %d", a, index, n, f, classes, e)
		}
		if partition.Finer(a, b) && (!right || !partition.Valid(b) || len(a) != len(b)) {
			t.Fatalf("Finer(%v, %v)", a, b)
		}
		if !slices.Equal(a, first) || !slices.Equal(b, second) {
			t.Fatalf("%v and %v were changed to %v and %v", first, second, a, b)
		}
	}
}

package types_test

import (
	"math/rand/v2"
	"slices"
	"strconv"
	"testing"

	"scarfjoint/api"
	"scarfjoint/types"
)

// parents visits the lists of Parents of n node types.
func parents(n int, visit func(l []int)) {
	l := make([]int, n)
	var fill func(i int)
	fill = func(i int) {
		if i == n {
			visit(l)
			return
		}
		for l[i] = -1; l[i] < i; l[i]++ {
			fill(i + 1)
		}
	}
	fill(0)
}

// randomParents returns a list of Parents of n node types; few of them are -1 where deep is great.
func randomParents(r *rand.Rand, n, deep int) []int {
	l := make([]int, n)
	for i := range l {
		l[i] = i - 1
		for range deep {
			l[i] = max(l[i]-r.IntN(2), -1)
		}
	}
	return l
}

// tree returns a type graph with these Parents.
func tree(l []int) api.Types {
	var x api.Types
	for i, p := range l {
		x.Nodes = append(x.Nodes, api.NodeType{Name: "N" + strconv.Itoa(i), Parent: p, Abstract: i%2 == 0})
	}
	return x
}

// order says which types are which ones, or subtypes of them: the closure of "is itself" and "has the Parent".
type order [][]bool

// orderOf returns the order that the definition of subtypes gives.
func orderOf(x api.Types) order {
	o := make(order, len(x.Nodes))
	for i, y := range x.Nodes {
		o[i] = make([]bool, len(x.Nodes))
		o[i][i] = true
		for k := range i {
			o[i][k] = y.Parent == k || y.Parent >= 0 && o[y.Parent][k]
		}
	}
	return o
}

// least returns the element of those for which is holds that is below each of them; greatest the one above each of them.
func (o order) least(is func(c int) bool) (int, bool) {
	return o.extreme(is, func(c, d int) bool { return o[c][d] })
}

func (o order) greatest(is func(c int) bool) (int, bool) {
	return o.extreme(is, func(c, d int) bool { return o[d][c] })
}

func (o order) extreme(is func(c int) bool, before func(c, d int) bool) (int, bool) {
	for c := range o {
		beforeAll := is(c)
		for d := range o {
			beforeAll = beforeAll && (!is(d) || before(c, d))
		}
		if beforeAll {
			return c, true
		}
	}
	return 0, false
}

// pick returns the numbers below n for which is holds.
func pick(n int, is func(c int) bool) []int {
	var l []int
	for c := range n {
		if is(c) {
			l = append(l, c)
		}
	}
	return l
}

func expectMeet(t *testing.T, x api.Types, a, b, want int, e api.Errno) {
	t.Helper()
	if c, f := types.Meet(x, a, b); c != want || f != e {
		t.Errorf("Meet(%v, %d, %d) = %d, %d, want %d, %d", x, a, b, c, f, want, e)
	}
}

func expectJoin(t *testing.T, x api.Types, a, b, want int, e api.Errno) {
	t.Helper()
	if c, f := types.Join(x, a, b); c != want || f != e {
		t.Errorf("Join(%v, %d, %d) = %d, %d, want %d, %d", x, a, b, c, f, want, e)
	}
}

// expectOrder expects that the functions of types are those of the order of a type graph.
func expectOrder(t *testing.T, x api.Types) {
	t.Helper()
	o := orderOf(x)
	for a := range o {
		// Each type has one Parent, so what is above it is a chain in which supertypes come first.
		expectTypes(t, x, a, pick(len(o), func(c int) bool { return o[a][c] }), pick(len(o), func(c int) bool { return o[c][a] }))
		for b := range o {
			if types.Is(x, a, b) != o[a][b] {
				t.Errorf("Is(%v, %d, %d) = %v", x, a, b, !o[a][b])
			}
			expectBounds(t, x, o, a, b)
		}
	}
}

// expectBounds expects that Meet is the greatest type below both, and Join the least one above both.
func expectBounds(t *testing.T, x api.Types, o order, a, b int) {
	t.Helper()
	meet, hasMeet := o.greatest(func(c int) bool { return o[c][a] && o[c][b] })
	join, hasJoin := o.least(func(c int) bool { return o[a][c] && o[b][c] })
	wantMeet, wantJoin := api.OK, api.OK
	if !hasMeet {
		wantMeet = api.ErrType
	}
	if !hasJoin {
		wantJoin = api.ErrNone
	}
	expectMeet(t, x, a, b, meet, wantMeet)
	expectJoin(t, x, a, b, join, wantJoin)
}

// expectPartial expects that Is is a partial order.
func expectPartial(t *testing.T, x api.Types) {
	t.Helper()
	for a := range x.Nodes {
		if !types.Is(x, a, a) {
			t.Errorf("Is(%v) is not reflexive for %d", x, a)
		}
		for b := range x.Nodes {
			if a != b && types.Is(x, a, b) && types.Is(x, b, a) {
				t.Errorf("Is(%v) is not antisymmetric for %d and %d", x, a, b)
			}
			for c := range x.Nodes {
				if types.Is(x, a, b) && types.Is(x, b, c) && !types.Is(x, a, c) {
					t.Errorf("Is(%v) is not transitive for %d, %d and %d", x, a, b, c)
				}
			}
		}
	}
}

// P4.1 and P4.2: the order of types, for all type graphs with few node types, and for some with up to 12.
func TestOrder(t *testing.T) {
	for n := 1; n <= 5; n++ {
		parents(n, func(l []int) {
			x := tree(l)
			expectOrder(t, x)
			expectPartial(t, x)
		})
	}
	r := rand.New(rand.NewPCG(4, 1))
	for deep := range 6 {
		for n := 6; n <= 12; n++ {
			x := tree(randomParents(r, n, deep))
			expectOrder(t, x)
			expectPartial(t, x)
		}
	}
}

// randomTypes returns a type graph with attributes and edge types.
func randomTypes(r *rand.Rand) api.Types {
	x := tree(randomParents(r, 1+r.IntN(12), 1+r.IntN(4)))
	total := make([]int, len(x.Nodes))
	for i, y := range x.Nodes {
		if y.Parent >= 0 {
			total[i] = total[y.Parent]
		}
		own := r.IntN(min(4, 8-total[i]) + 1)
		total[i] += own
		x.Nodes[i].Attrs = randomAttrs(r, "a"+strconv.Itoa(i)+"_", own)
	}
	for _, s := range numbered("e", r.IntN(21)) {
		x.Edges = append(x.Edges, api.EdgeType{Name: s, From: r.IntN(len(x.Nodes)), To: r.IntN(len(x.Nodes)), OutHigh: -1, InHigh: -1})
	}
	return x
}

// randomAttrs returns n attributes with names that begin with a text.
func randomAttrs(r *rand.Rand, begin string, n int) []api.Attr {
	var l []api.Attr
	for _, s := range numbered(begin, n) {
		if r.IntN(2) == 0 {
			l = append(l, names(s, numbered("v", 1+r.IntN(20))...))
		} else {
			low := r.IntN(100) - 50
			l = append(l, number(s, low, low+r.IntN(50)))
		}
	}
	return l
}

// P4.1 and P4.2: the attributes of a subtype begin with those of its supertypes, and its own ones follow.
func TestInheritance(t *testing.T) {
	r := rand.New(rand.NewPCG(4, 2))
	for range 300 {
		x := randomTypes(r)
		expectValid(t, "a random type graph", x, "", api.OK)
		for a, y := range x.Nodes {
			var inherited []api.Attr
			if y.Parent >= 0 {
				inherited, _ = types.Attrs(x, y.Parent)
			}
			expectAttrs(t, x, a, slices.Concat(inherited, y.Attrs)...)
		}
	}
}

// P4.1 and P4.2: an edge type fits From and To and all of their subtypes, and so all subtypes of types that it fits.
func TestFitsSubtypes(t *testing.T) {
	r := rand.New(rand.NewPCG(4, 3))
	for range 150 {
		x := randomTypes(r)
		o := orderOf(x)
		for edge, y := range x.Edges {
			for from := range o {
				for to := range o {
					fits := types.Fits(x, edge, from, to)
					if fits != (o[from][y.From] && o[to][y.To]) {
						t.Errorf("Fits(%v, %d, %d, %d) = %v", x, edge, from, to, fits)
					}
					if fits {
						expectSubtypesFit(t, x, edge, from, to)
					}
				}
			}
		}
	}
}

// expectSubtypesFit expects of an edge type that it fits all subtypes of two types.
func expectSubtypesFit(t *testing.T, x api.Types, edge, from, to int) {
	t.Helper()
	sources, _ := types.Below(x, from)
	targets, _ := types.Below(x, to)
	for _, a := range sources {
		for _, b := range targets {
			if !types.Fits(x, edge, a, b) {
				t.Errorf("Fits(%v, %d, %d, %d) is false", x, edge, a, b)
			}
		}
	}
}

package morphism_test

import (
	"math"
	"math/rand/v2"
	"slices"
	"testing"

	"scarfjoint/api"
	"scarfjoint/graph"
	"scarfjoint/morphism"
)

// small returns the graphs with up to 2 nodes and up to 2 edges, with two types of nodes and of edges.
func small() []api.Graph {
	l := []api.Graph{{}}
	for _, nodes := range [][]int{{0}, {1}, {0, 0}, {0, 1}, {1, 0}, {1, 1}} {
		var edges []api.Edge
		for from := range nodes {
			for to := range nodes {
				edges = append(edges, api.Edge{Type: 0, From: from, To: to}, api.Edge{Type: 1, From: from, To: to})
			}
		}
		l = append(l, build(nodes))
		for _, x := range edges {
			l = append(l, build(nodes, x))
			for _, y := range edges {
				l = append(l, build(nodes, x, y))
			}
		}
	}
	return l
}

// random returns a graph with n nodes and up to m edges, with some types of nodes and of edges.
func random(r *rand.Rand, n, m, nodeTypes, edgeTypes int) api.Graph {
	var g api.Graph
	for range n {
		g.Nodes = append(g.Nodes, r.IntN(nodeTypes))
	}
	if n == 0 {
		return g
	}
	for range r.IntN(m + 1) {
		g.Edges = append(g.Edges, api.Edge{Type: r.IntN(edgeTypes), From: r.IntN(n), To: r.IntN(n)})
	}
	return g
}

// lists visits the lists of n numbers that are less than bound, in order.
func lists(n, bound int, visit func(l []int)) {
	l := make([]int, n)
	var set func(i int)
	set = func(i int) {
		if i == n {
			visit(slices.Clone(l))
			return
		}
		for x := range bound {
			l[i] = x
			set(i + 1)
		}
	}
	set(0)
}

// isMorphism reports by the definition whether a map is a morphism; its images are in range.
func isMorphism(a, b api.Graph, m api.Morphism) bool {
	for i, v := range m.Nodes {
		if a.Nodes[i] != b.Nodes[v] {
			return false
		}
	}
	for i, k := range m.Edges {
		x, y := a.Edges[i], b.Edges[k]
		if x.Type != y.Type || m.Nodes[x.From] != y.From || m.Nodes[x.To] != y.To {
			return false
		}
	}
	return true
}

// tryAll returns all morphisms, found by trying all maps, in order.
func tryAll(t *testing.T, a, b api.Graph) []api.Morphism {
	t.Helper()
	var all []api.Morphism
	lists(len(a.Nodes), len(b.Nodes), func(nodes []int) {
		lists(len(a.Edges), len(b.Edges), func(edges []int) {
			m := api.Morphism{Nodes: nodes, Edges: edges}
			is := isMorphism(a, b, m)
			if is {
				all = append(all, m)
			}
			if (morphism.Valid(a, b, m) == api.OK) != is {
				t.Errorf("Valid(%v, %v, %v) = %d", a, b, m, morphism.Valid(a, b, m))
			}
		})
	})
	return all
}

// isOnce and isAll report by the definitions whether no number occurs twice, and whether all numbers below n occur.
func isOnce(l []int) bool {
	for i, x := range l {
		if slices.Contains(l[:i], x) {
			return false
		}
	}
	return true
}

func isAll(l []int, n int) bool {
	for x := range n {
		if !slices.Contains(l, x) {
			return false
		}
	}
	return true
}

// expectDefined expects that a morphism is injective and surjective by the definitions, and has an inverse if it is both, which leads back.
func expectDefined(t *testing.T, a, b api.Graph, m api.Morphism) {
	t.Helper()
	injective := isOnce(m.Nodes) && isOnce(m.Edges)
	surjective := isAll(m.Nodes, len(b.Nodes)) && isAll(m.Edges, len(b.Edges))
	expectKind(t, a, b, m, injective, surjective)
	inverse, e := morphism.Inverse(a, b, m)
	if !injective || !surjective {
		expectError(t, "Inverse", api.ErrNone, e, inverse)
		return
	}
	expectKind(t, b, a, inverse, true, true)
	if there := compose(t, a, b, a, m, inverse); !sameMap(there, identity(t, a)) {
		t.Errorf("%v and then its inverse is %v", m, there)
	}
	if back := compose(t, b, a, b, inverse, m); !sameMap(back, identity(t, b)) {
		t.Errorf("the inverse of %v and then itself is %v", m, back)
	}
	if again, e := morphism.Inverse(b, a, inverse); !sameMap(again, m) || e != api.OK {
		t.Errorf("the inverse of the inverse of %v is %v, %d", m, again, e)
	}
}

// identity returns the identity of a graph without an error.
func identity(t *testing.T, g api.Graph) api.Morphism {
	t.Helper()
	m, e := morphism.Identity(g)
	if e != api.OK {
		t.Errorf("Identity(%v) has the error %d", g, e)
	}
	return m
}

// compose returns the composition of morphisms without an error.
func compose(t *testing.T, a, b, c api.Graph, m, n api.Morphism) api.Morphism {
	t.Helper()
	composed, e := morphism.Compose(a, b, c, m, n)
	if e != api.OK {
		t.Errorf("Compose(%v, %v, %v, %v, %v) has the error %d", a, b, c, m, n, e)
	}
	return composed
}

// all returns all morphisms between graphs, of which there are not too many.
func all(t *testing.T, a, b api.Graph) []api.Morphism {
	t.Helper()
	l, e := morphism.All(a, b)
	if e != api.OK {
		t.Errorf("All(%v, %v) has the error %d", a, b, e)
	}
	return l
}

// P6.1: All, Valid, Injective, Surjective and Inverse by the definitions, for all pairs of small graphs.
func TestDefinitions(t *testing.T) {
	l := small()
	for _, a := range l {
		for _, b := range l {
			want := tryAll(t, a, b)
			if found := all(t, a, b); !slices.EqualFunc(found, want, sameMap) {
				t.Errorf("All(%v, %v) = %v, want %v", a, b, found, want)
			}
			for _, m := range want {
				expectDefined(t, a, b, m)
			}
		}
	}
}

// maps returns how many maps there are from the elements of a graph to those of another one.
func maps(a, b api.Graph) float64 {
	return math.Pow(float64(len(b.Nodes)), float64(len(a.Nodes))) * math.Pow(float64(len(b.Edges)), float64(len(a.Edges)))
}

// P6.1: All by the definition, for random graphs; more than 2000 morphisms are too many.
func TestAllOfRandom(t *testing.T) {
	r := rand.New(rand.NewPCG(6, 1))
	tooMany := 0
	for i := range 6000 {
		types := 1 + i%2
		a, b := random(r, r.IntN(6), 4, types, 1), random(r, r.IntN(6), 9, types, 1+i%3)
		if maps(a, b) > 20000 {
			continue
		}
		want := tryAll(t, a, b)
		l, e := morphism.All(a, b)
		if len(want) > 2000 {
			expectError(t, "All of too many", api.ErrTooLarge, e, l)
			tooMany++
		} else if !slices.EqualFunc(l, want, sameMap) || e != api.OK {
			t.Errorf("All(%v, %v) = %v, %d, want %v", a, b, l, e, want)
		}
	}
	if tooMany == 0 {
		t.Error("no random graphs have too many morphisms")
	}
}

// pool returns small graphs between which there are morphisms of all kinds.
func pool() []api.Graph {
	path := directed(3, [2]int{0, 1}, [2]int{1, 2})
	return []api.Graph{
		{},
		alike(1, 0),
		alike(2, 0),
		loop(),
		alike(1, 2),
		arrow(),
		directed(2, [2]int{0, 1}, [2]int{0, 1}),
		mutual(2, [2]int{0, 1}),
		path,
		directed(3, [2]int{2, 1}, [2]int{0, 2}),
		directed(2, [2]int{0, 1}, [2]int{1, 1}),
		build([]int{0, 1}, api.Edge{}),
		build([]int{0, 1, 0}, api.Edge{From: 2, To: 2}, api.Edge{To: 2}),
	}
}

// P6.2: identities are neutral, and a list of All composed with a morphism is in a list of All.
func TestLists(t *testing.T) {
	l := pool()
	for _, a := range l {
		for _, b := range l {
			for _, m := range all(t, a, b) {
				if n := compose(t, a, a, b, identity(t, a), m); !sameMap(n, m) {
					t.Errorf("the identity and then %v is %v", m, n)
				}
				if n := compose(t, a, b, b, m, identity(t, b)); !sameMap(n, m) {
					t.Errorf("%v and then the identity is %v", m, n)
				}
				for _, c := range l {
					expectContained(t, a, b, c, m)
				}
			}
		}
	}
}

// expectContained expects that the compositions of a morphism from a to b and all those from b to c are among those from a to c, and that they are injective and surjective as P6.2 says.
func expectContained(t *testing.T, a, b, c api.Graph, m api.Morphism) {
	t.Helper()
	whole := all(t, a, c)
	for _, n := range all(t, b, c) {
		both := compose(t, a, b, c, m, n)
		if !slices.ContainsFunc(whole, func(x api.Morphism) bool { return sameMap(x, both) }) {
			t.Errorf("%v and then %v is not in the list of All", m, n)
		}
		expectKinds(t, a, b, c, m, n, both)
	}
}

// expectKinds expects what P6.2 says of injective and surjective morphisms and their composition.
func expectKinds(t *testing.T, a, b, c api.Graph, m, n, both api.Morphism) {
	t.Helper()
	first, second, composed := morphism.Injective(a, b, m), morphism.Injective(b, c, n), morphism.Injective(a, c, both)
	if first && second && !composed || composed && !first {
		t.Errorf("%v and %v, injective: %v, %v, composed: %v", m, n, first, second, composed)
	}
	first, second, composed = morphism.Surjective(a, b, m), morphism.Surjective(b, c, n), morphism.Surjective(a, c, both)
	if first && second && !composed || composed && !second {
		t.Errorf("%v and %v, surjective: %v, %v, composed: %v", m, n, first, second, composed)
	}
}

// extend returns a graph with all that a list of random choices maps from a graph, and more; and the morphism to it.
func extend(r *rand.Rand, g api.Graph) (api.Graph, api.Morphism) {
	var h api.Graph
	var m api.Morphism
	for _, kind := range g.Nodes {
		v := r.IntN(len(g.Nodes))
		for i, other := range h.Nodes {
			if other == kind && r.IntN(3) == 0 {
				v = i
			}
		}
		if v >= len(h.Nodes) || h.Nodes[v] != kind {
			v = len(h.Nodes)
			h.Nodes = append(h.Nodes, kind)
		}
		m.Nodes = append(m.Nodes, v)
	}
	for _, x := range g.Edges {
		image := api.Edge{Type: x.Type, From: m.Nodes[x.From], To: m.Nodes[x.To]}
		k := slices.Index(h.Edges, image)
		if k < 0 || r.IntN(2) == 0 {
			k = len(h.Edges)
			h.Edges = append(h.Edges, image)
		}
		m.Edges = append(m.Edges, k)
	}
	for len(h.Nodes) < 40 && r.IntN(3) > 0 {
		h.Nodes = append(h.Nodes, r.IntN(3))
	}
	for len(h.Nodes) > 0 && len(h.Edges) < 80 && r.IntN(5) > 0 {
		h.Edges = append(h.Edges, api.Edge{Type: r.IntN(3), From: r.IntN(len(h.Nodes)), To: r.IntN(len(h.Nodes))})
	}
	return h, m
}

// P6.2: composition is associative, and preserves kinds, for random chains of morphisms between graphs of any size.
func TestChains(t *testing.T) {
	r := rand.New(rand.NewPCG(6, 2))
	for i := range 2000 {
		a := random(r, r.IntN(1+i%40), 1+i%80, 1+i%3, 3)
		b, m := extend(r, a)
		c, n := extend(r, b)
		d, o := extend(r, c)
		mn, no := compose(t, a, b, c, m, n), compose(t, b, c, d, n, o)
		left, right := compose(t, a, c, d, mn, o), compose(t, a, b, d, m, no)
		if !sameMap(left, right) || !morphism.Same(left, right) || !isMorphism(a, d, left) {
			t.Errorf("the compositions of %v, %v and %v are %v and %v", m, n, o, left, right)
		}
		expectKinds(t, a, b, c, m, n, mn)
		expectKinds(t, a, c, d, mn, o, left)
		expectDefined(t, a, b, m)
		expectDefined(t, b, c, n)
	}
}

// P6.2: an isomorphism composed with its inverse is the identity, for random orders of random graphs; All finds it where it finds all.
func TestOrders(t *testing.T) {
	r := rand.New(rand.NewPCG(6, 3))
	for i := range 1000 {
		g := random(r, r.IntN(41), 1+i%80, 1+i%40, 1+i%20)
		m := api.Morphism{Nodes: r.Perm(len(g.Nodes)), Edges: r.Perm(len(g.Edges))}
		h, _ := graph.Reorder(g, m)
		expectKind(t, g, h, m, true, true)
		expectDefined(t, g, h, m)
		l, e := morphism.All(g, h)
		if e == api.ErrTooLarge {
			continue
		}
		if e != api.OK || !slices.ContainsFunc(l, func(x api.Morphism) bool { return sameMap(x, m) }) {
			t.Errorf("All(%v, %v) = %v, %d, without %v", g, h, l, e, m)
		}
	}
}

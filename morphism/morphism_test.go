package morphism_test

import (
	"reflect"
	"slices"
	"testing"

	"scarfjoint/api"
	"scarfjoint/morphism"
)

// build returns a graph with some nodes and edges.
func build(nodes []int, edges ...api.Edge) api.Graph {
	return api.Graph{Nodes: nodes, Edges: edges}
}

// alike returns a graph with numbers of nodes of the type 0, and of loops of the type 0 at the first one.
func alike(nodes, edges int) api.Graph {
	return api.Graph{Nodes: make([]int, nodes), Edges: make([]api.Edge, edges)}
}

// directed returns a graph with n nodes of the type 0, and an edge of the type 0 for each pair.
func directed(n int, pairs ...[2]int) api.Graph {
	g := api.Graph{Nodes: make([]int, n)}
	for _, p := range pairs {
		g.Edges = append(g.Edges, api.Edge{From: p[0], To: p[1]})
	}
	return g
}

// mutual returns a graph with n nodes of the type 0, and edges of the type 0 in both directions for each pair.
func mutual(n int, pairs ...[2]int) api.Graph {
	g := directed(n, pairs...)
	for _, p := range pairs {
		g.Edges = append(g.Edges, api.Edge{From: p[1], To: p[0]})
	}
	return g
}

// to returns a morphism.
func to(nodes []int, edges ...int) api.Morphism {
	return api.Morphism{Nodes: nodes, Edges: edges}
}

// count returns n numbers, from a first one on.
func count(first, n int) []int {
	var l []int
	for i := range n {
		l = append(l, first+i)
	}
	return l
}

// arrow and loop are the graphs of the chapter's examples.
func arrow() api.Graph { return directed(2, [2]int{0, 1}) }
func loop() api.Graph  { return directed(1, [2]int{0, 0}) }

// source returns a graph with different types, a loop, parallel edges, and edges in both directions.
func source() api.Graph {
	return build([]int{5, 7, 5, 7},
		api.Edge{Type: 2, From: 0, To: 1},
		api.Edge{Type: 2, From: 0, To: 1},
		api.Edge{Type: 3, From: 1, To: 2},
		api.Edge{Type: 4, From: 2, To: 2},
		api.Edge{Type: 2, From: 2, To: 3},
		api.Edge{Type: 4, From: 0, To: 2})
}

// target returns a graph to which there are two morphisms from source, and what no edge of source is mapped to.
func target() api.Graph {
	return build([]int{7, 9, 5, 5},
		api.Edge{Type: 4, From: 2, To: 2},
		api.Edge{Type: 2, From: 2, To: 0},
		api.Edge{Type: 3, From: 0, To: 2},
		api.Edge{Type: 3, From: 2, To: 2},
		api.Edge{Type: 2, From: 3, To: 0},
		api.Edge{Type: 9, From: 1, To: 1},
		api.Edge{Type: 4, From: 3, To: 2})
}

// sameMap is what morphism.Same has to be.
func sameMap(a, b api.Morphism) bool {
	return slices.Equal(a.Nodes, b.Nodes) && slices.Equal(a.Edges, b.Edges)
}

// expectAll expects all morphisms, in order, and that they have no error.
func expectAll(t *testing.T, a, b api.Graph, want ...api.Morphism) {
	t.Helper()
	l, e := morphism.All(a, b)
	if !slices.EqualFunc(l, want, sameMap) || e != api.OK {
		t.Errorf("All(%v, %v) = %v, %d, want %v", a, b, l, e, want)
	}
	for _, m := range want {
		if e := morphism.Valid(a, b, m); e != api.OK {
			t.Errorf("Valid(%v, %v, %v) = %d", a, b, m, e)
		}
	}
}

// expectKind expects that a morphism has no error, and whether it is injective and surjective.
func expectKind(t *testing.T, a, b api.Graph, m api.Morphism, injective, surjective bool) {
	t.Helper()
	if e := morphism.Valid(a, b, m); e != api.OK {
		t.Errorf("Valid(%v, %v, %v) = %d", a, b, m, e)
	}
	if morphism.Injective(a, b, m) != injective {
		t.Errorf("Injective(%v, %v, %v) = %v", a, b, m, !injective)
	}
	if morphism.Surjective(a, b, m) != surjective {
		t.Errorf("Surjective(%v, %v, %v) = %v", a, b, m, !surjective)
	}
}

// P6.1: the chapter's examples.
func TestExamples(t *testing.T) {
	a, b := arrow(), loop()
	m := to([]int{0, 0}, 0)
	expectAll(t, a, b, m)
	expectKind(t, a, b, m, false, true)
	expectAll(t, b, a)
	expectAll(t, a, a, to([]int{0, 1}, 0))
}

// P6.1: Valid: morphisms of several types, from and to empty graphs, and at the bounds of graphs.
func TestValid(t *testing.T) {
	none := api.Graph{}
	for i, c := range []struct {
		a, b api.Graph
		m    api.Morphism
	}{
		{none, none, to(nil)},
		{none, none, to([]int{}, []int{}...)},
		{none, target(), to(nil)},
		{source(), source(), to(count(0, 4), count(0, 6)...)},
		{source(), target(), to([]int{2, 0, 2, 0}, 1, 1, 2, 0, 1, 0)},
		{source(), target(), to([]int{3, 0, 2, 0}, 4, 4, 2, 0, 1, 6)},
		{alike(40, 80), alike(1, 1), to(make([]int, 40), make([]int, 80)...)},
		{alike(1, 1), alike(40, 80), to([]int{0}, 79)},
		{alike(1, 0), alike(40, 80), to([]int{39})},
		{alike(40, 80), alike(40, 80), to(make([]int, 40), slices.Repeat([]int{79}, 80)...)},
	} {
		if e := morphism.Valid(c.a, c.b, c.m); e != api.OK {
			t.Errorf("the right morphism %d has the error %d", i, e)
		}
	}
}

// P6.1: Identity: everything is where it is.
func TestIdentity(t *testing.T) {
	for _, g := range []api.Graph{{}, arrow(), loop(), source(), target(), alike(40, 80), alike(40, 0)} {
		m, e := morphism.Identity(g)
		if want := to(count(0, len(g.Nodes)), count(0, len(g.Edges))...); !sameMap(m, want) || e != api.OK {
			t.Errorf("Identity(%v) = %v, %d", g, m, e)
		}
		expectKind(t, g, g, m, true, true)
	}
}

// P6.1: Compose: first m, then n.
func TestCompose(t *testing.T) {
	path := directed(3, [2]int{0, 1}, [2]int{1, 2})
	other := build([]int{5, 7, 9, 8},
		api.Edge{Type: 2, From: 0, To: 1},
		api.Edge{Type: 3, From: 0, To: 0},
		api.Edge{Type: 4, From: 0, To: 0},
		api.Edge{Type: 3, From: 1, To: 0},
		api.Edge{Type: 9, From: 2, To: 2})
	for i, c := range []struct {
		a, b, c    api.Graph
		m, n, want api.Morphism
	}{
		{api.Graph{}, api.Graph{}, api.Graph{}, to(nil), to(nil), to(nil)},
		{api.Graph{}, arrow(), loop(), to(nil), to([]int{0, 0}, 0), to(nil)},
		{arrow(), path, loop(), to([]int{1, 2}, 1), to([]int{0, 0, 0}, 0, 0), to([]int{0, 0}, 0)},
		{arrow(), arrow(), path, to([]int{0, 1}, 0), to([]int{1, 2}, 1), to([]int{1, 2}, 1)},
		{source(), target(), other, to([]int{3, 0, 2, 0}, 4, 4, 2, 0, 1, 6), to([]int{1, 2, 0, 0}, 2, 0, 3, 1, 0, 4, 2), to([]int{0, 1, 0, 1}, 0, 0, 3, 2, 0, 2)},
		{alike(40, 80), alike(40, 80), alike(40, 80), to(make([]int, 40), slices.Repeat([]int{9}, 80)...), to(count(0, 40), slices.Repeat([]int{7}, 80)...), to(make([]int, 40), slices.Repeat([]int{7}, 80)...)},
	} {
		if m, e := morphism.Compose(c.a, c.b, c.c, c.m, c.n); !sameMap(m, c.want) || e != api.OK {
			t.Errorf("Compose %d = %v, %d, want %v", i, m, e, c.want)
		}
	}
}

// P6.1: Injective and Surjective: nodes alone, edges alone, and both.
func TestKinds(t *testing.T) {
	two := directed(2, [2]int{0, 1}, [2]int{0, 1})
	expectKind(t, api.Graph{}, api.Graph{}, to(nil), true, true)
	expectKind(t, api.Graph{}, alike(1, 0), to(nil), true, false)
	expectKind(t, alike(1, 0), alike(1, 1), to([]int{0}), true, false)
	expectKind(t, alike(1, 2), alike(1, 1), to([]int{0}, 0, 0), false, true)
	expectKind(t, alike(1, 2), alike(1, 2), to([]int{0}, 1, 1), false, false)
	expectKind(t, alike(1, 2), alike(1, 2), to([]int{0}, 1, 0), true, true)
	expectKind(t, alike(1, 3), alike(1, 2), to([]int{0}, 1, 0, 1), false, true)
	expectKind(t, alike(2, 0), alike(1, 0), to([]int{0, 0}), false, true)
	expectKind(t, alike(2, 0), alike(2, 0), to([]int{1, 1}), false, false)
	expectKind(t, alike(2, 0), alike(2, 0), to([]int{1, 0}), true, true)
	expectKind(t, alike(3, 0), alike(2, 0), to([]int{1, 0, 1}), false, true)
	expectKind(t, alike(2, 0), alike(3, 0), to([]int{2, 0}), true, false)
	expectKind(t, arrow(), two, to([]int{0, 1}, 1), true, false)
	expectKind(t, two, arrow(), to([]int{0, 1}, 0, 0), false, true)
	expectKind(t, source(), target(), to([]int{3, 0, 2, 0}, 4, 4, 2, 0, 1, 6), false, false)
	expectKind(t, alike(40, 80), alike(40, 80), to(count(0, 40), count(0, 80)...), true, true)
	last := append(count(0, 79), 78)
	expectKind(t, alike(40, 80), alike(40, 80), to(count(0, 40), last...), false, false)
}

// P6.1: Inverse: each element goes back; only isomorphisms have one.
func TestInverse(t *testing.T) {
	path, turned := directed(3, [2]int{0, 1}, [2]int{1, 2}), directed(3, [2]int{0, 1}, [2]int{2, 0})
	for i, c := range []struct {
		a, b    api.Graph
		m, want api.Morphism
	}{
		{api.Graph{}, api.Graph{}, to(nil), to(nil)},
		{path, turned, to([]int{2, 0, 1}, 1, 0), to([]int{1, 2, 0}, 1, 0)},
		{alike(4, 3), alike(4, 3), to([]int{0, 2, 3, 1}, 1, 2, 0), to([]int{0, 3, 1, 2}, 2, 0, 1)},
	} {
		if m, e := morphism.Inverse(c.a, c.b, c.m); !sameMap(m, c.want) || e != api.OK {
			t.Errorf("Inverse %d = %v, %d, want %v", i, m, e, c.want)
		}
	}
	for i, c := range []struct {
		a, b api.Graph
		m    api.Morphism
	}{
		{arrow(), loop(), to([]int{0, 0}, 0)},
		{arrow(), path, to([]int{0, 1}, 0)},
		{api.Graph{}, loop(), to(nil)},
		{alike(1, 0), alike(1, 1), to([]int{0})},
		{alike(1, 2), alike(1, 1), to([]int{0}, 0, 0)},
		{alike(1, 2), alike(1, 2), to([]int{0}, 0, 0)},
		{alike(2, 0), alike(2, 0), to([]int{1, 1})},
		{alike(2, 0), alike(1, 0), to([]int{0, 0})},
		{alike(2, 1), alike(3, 1), to([]int{0, 2}, 0)},
	} {
		m, e := morphism.Inverse(c.a, c.b, c.m)
		expectError(t, "Inverse of what is no isomorphism", api.ErrNone, e, m)
		if e := morphism.Valid(c.a, c.b, c.m); e != api.OK {
			t.Errorf("Valid %d = %d", i, e)
		}
	}
}

// P6.1: All: ordered by nodes, then by edges; types, loops, parallel edges and directions count.
func TestAll(t *testing.T) {
	none := api.Graph{}
	two := directed(2, [2]int{0, 1}, [2]int{0, 1})
	expectAll(t, none, none, to(nil))
	expectAll(t, none, target(), to(nil))
	expectAll(t, alike(1, 0), none)
	expectAll(t, source(), target(),
		to([]int{2, 0, 2, 0}, 1, 1, 2, 0, 1, 0),
		to([]int{3, 0, 2, 0}, 4, 4, 2, 0, 1, 6))
	expectAll(t, target(), source())
	expectAll(t, alike(2, 0), build([]int{0, 1, 0}), to([]int{0, 0}), to([]int{0, 2}), to([]int{2, 0}), to([]int{2, 2}))
	expectAll(t, two, two, to([]int{0, 1}, 0, 0), to([]int{0, 1}, 0, 1), to([]int{0, 1}, 1, 0), to([]int{0, 1}, 1, 1))
	expectAll(t, arrow(), directed(2, [2]int{1, 0}), to([]int{1, 0}, 0))
	expectAll(t, arrow(), directed(3, [2]int{2, 0}, [2]int{1, 1}, [2]int{0, 2}), to([]int{0, 2}, 2), to([]int{1, 1}, 1), to([]int{2, 0}, 0))
	expectAll(t, loop(), directed(3, [2]int{2, 2}, [2]int{0, 1}, [2]int{1, 1}, [2]int{2, 2}), to([]int{1}, 2), to([]int{2}, 0), to([]int{2}, 3))
	expectAll(t, build([]int{0}, api.Edge{Type: 1}), loop())
	expectAll(t, build([]int{0, 0}, api.Edge{Type: 1, To: 1}, api.Edge{To: 1}), two)
	expectAll(t, build([]int{99}, api.Edge{Type: 99}), build([]int{98, 99}, api.Edge{Type: 99, From: 1, To: 1}, api.Edge{Type: 99}), to([]int{1}, 0))
	expectAll(t, directed(3, [2]int{0, 1}, [2]int{1, 2}), directed(2, [2]int{0, 1}, [2]int{1, 1}), to([]int{0, 1, 1}, 0, 1), to([]int{1, 1, 1}, 1, 1))
}

// P6.1: Same: equal lists, whatever is in them.
func TestSame(t *testing.T) {
	for i, l := range [][2]api.Morphism{
		{{}, {}},
		{{}, {Nodes: []int{}, Edges: []int{}}},
		{to([]int{2, 0}, 1), to([]int{2, 0}, 1)},
		{to([]int{-1, 1000}, -7), to([]int{-1, 1000}, -7)},
		{to(make([]int, 1000), make([]int, 1000)...), to(make([]int, 1000), make([]int, 1000)...)},
	} {
		if !morphism.Same(l[0], l[1]) || !morphism.Same(l[1], l[0]) {
			t.Errorf("Same of the equal morphisms %d is false", i)
		}
	}
	m := to([]int{3, 1}, 4, 5)
	for i, n := range []api.Morphism{
		{},
		to([]int{3, 1}),
		to(nil, 4, 5),
		to([]int{3}, 4, 5),
		to([]int{3, 1, 0}, 4, 5),
		to([]int{1, 3}, 4, 5),
		to([]int{3, 2}, 4, 5),
		to([]int{3, 1}, 4),
		to([]int{3, 1}, 4, 5, 0),
		to([]int{3, 1}, 5, 4),
		to([]int{3, 1}, 4, 6),
		to([]int{4, 5}, 3, 1),
	} {
		if morphism.Same(m, n) || morphism.Same(n, m) {
			t.Errorf("Same of the different morphism %d is true", i)
		}
	}
	if morphism.Same(to([]int{1}), to(nil, 1)) {
		t.Error("Same takes nodes for edges")
	}
}

// results returns the results of all functions for two graphs and two morphisms.
func results(a, b api.Graph, m, n api.Morphism) []api.Morphism {
	identity, _ := morphism.Identity(a)
	first, _ := morphism.Compose(a, b, b, m, n)
	second, _ := morphism.Compose(b, b, b, n, n)
	inverse, _ := morphism.Inverse(b, b, n)
	l, _ := morphism.All(a, b)
	return append(l, identity, first, second, inverse)
}

// write overwrites the lists of a morphism, up to their capacities.
func write(m api.Morphism) {
	for _, l := range [][]int{m.Nodes[:cap(m.Nodes)], m.Edges[:cap(m.Edges)]} {
		for i := range l {
			l[i] = -77
		}
	}
}

// The section Rules: results share no memory with arguments or with one another, and no state is kept.
func TestOwnMemory(t *testing.T) {
	arguments := func() (api.Graph, api.Graph, api.Morphism, api.Morphism) {
		a, b := directed(2, [2]int{0, 1}, [2]int{0, 1}), directed(2, [2]int{1, 0}, [2]int{1, 0})
		return a, b, to([]int{1, 0}, 1, 1), to([]int{0, 1}, 1, 0)
	}
	a, b, m, n := arguments()
	want := results(a, b, m, n)
	if len(want) != 8 {
		t.Errorf("%d results", len(want))
	}
	l := results(a, b, m, n)
	for i := range l {
		if !reflect.DeepEqual(l[i], want[i]) {
			t.Errorf("the result %d was %v, want %v", i, l[i], want[i])
		}
		write(l[i])
	}
	a2, b2, m2, n2 := arguments()
	if !reflect.DeepEqual([]any{a, b, m, n}, []any{a2, b2, m2, n2}) {
		t.Errorf("what is written to results changes an argument: %v, %v, %v, %v", a, b, m, n)
	}
	l = results(a, b, m, n)
	write(m)
	write(n)
	a.Edges[0].From, b.Edges[0].From = 1, 0
	if !reflect.DeepEqual(l, want) {
		t.Error("what is written to an argument changes results")
	}
}

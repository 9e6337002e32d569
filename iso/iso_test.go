package iso_test

import (
	"slices"
	"testing"

	"scarfjoint/api"
	"scarfjoint/iso"
)

// build returns a graph with some nodes and edges.
func build(nodes []int, edges ...api.Edge) api.Graph {
	return api.Graph{Nodes: nodes, Edges: edges}
}

// directed returns a graph with n nodes of the type 0, and an edge of the type 0 for each pair.
func directed(n int, pairs ...[2]int) api.Graph {
	g := api.Graph{Nodes: make([]int, n)}
	for _, p := range pairs {
		g.Edges = append(g.Edges, api.Edge{From: p[0], To: p[1]})
	}
	return g
}

// mutual returns a graph with n nodes of the type 0, and edges of the type 0 in both directions for each pair.
func mutual(n int, pairs ...[2]int) api.Graph {
	g := directed(n, pairs...)
	for _, p := range pairs {
		g.Edges = append(g.Edges, api.Edge{From: p[1], To: p[0]})
	}
	return g
}

// to returns a morphism.
func to(nodes []int, edges ...int) api.Morphism {
	return api.Morphism{Nodes: nodes, Edges: edges}
}

// count returns n numbers, from a first one on.
func count(first, n int) []int {
	var l []int
	for i := range n {
		l = append(l, first+i)
	}
	return l
}

// path and vee are the graphs of the chapter's examples.
func path() api.Graph { return directed(3, [2]int{0, 1}, [2]int{1, 2}) }
func vee() api.Graph  { return directed(3, [2]int{0, 1}, [2]int{2, 1}) }

// sameMap reports whether two morphisms are equal.
func sameMap(a, b api.Morphism) bool {
	return slices.Equal(a.Nodes, b.Nodes) && slices.Equal(a.Edges, b.Edges)
}

// sameReason reports whether two reasons are equal.
func sameReason(a, b api.Differ) bool {
	return a.Round == b.Round && slices.Equal(a.Colour, b.Colour) && a.First == b.First && a.Second == b.Second
}

// expectColours expects the colouring of a graph.
func expectColours(t *testing.T, g api.Graph, want ...int) {
	t.Helper()
	if l, e := iso.Refine(g); !slices.Equal(l, want) || e != api.OK {
		t.Errorf("Refine(%v) = %v, %d, want %v", g, l, e, want)
	}
}

// expectOrbits expects the orbits of a graph.
func expectOrbits(t *testing.T, g api.Graph, want ...int) {
	t.Helper()
	if l, e := iso.Orbits(g); !slices.Equal(l, want) || e != api.OK {
		t.Errorf("Orbits(%v) = %v, %d, want %v", g, l, e, want)
	}
}

// expectAll expects all isomorphisms, in order, and that Find returns the first one of them.
func expectAll(t *testing.T, a, b api.Graph, want ...api.Morphism) {
	t.Helper()
	if l, e := iso.All(a, b); !slices.EqualFunc(l, want, sameMap) || e != api.OK {
		t.Errorf("All(%v, %v) = %v, %d, want %v", a, b, l, e, want)
	}
	m, e := iso.Find(a, b)
	if len(want) == 0 {
		expectError(t, "Find without an isomorphism", api.ErrNone, e, m)
	} else if !sameMap(m, want[0]) || e != api.OK {
		t.Errorf("Find(%v, %v) = %v, %d, want %v", a, b, m, e, want[0])
	}
}

// expectReason expects the standard reason, and that it is right.
func expectReason(t *testing.T, a, b api.Graph, want api.Differ) {
	t.Helper()
	if d, e := iso.Reason(a, b); !sameReason(d, want) || e != api.OK {
		t.Errorf("Reason(%v, %v) = %v, %d, want %v", a, b, d, e, want)
	}
	if !iso.CheckReason(a, b, want) {
		t.Errorf("CheckReason(%v, %v, %v) = false", a, b, want)
	}
}

// expectNoReason expects that there is no right reason.
func expectNoReason(t *testing.T, a, b api.Graph) {
	t.Helper()
	d, e := iso.Reason(a, b)
	expectError(t, "Reason without a right one", api.ErrNone, e, d)
}

// P8.1: the chapter's examples.
func TestExamples(t *testing.T) {
	expectColours(t, path(), 0, 1, 2)
	expectAll(t, path(), path(), to([]int{0, 1, 2}, 0, 1))
	pair := directed(2)
	expectColours(t, pair, 0, 0)
	expectOrbits(t, pair, 0, 0)
	expectAll(t, pair, pair, to([]int{0, 1}), to([]int{1, 0}))
	expectReason(t, path(), vee(), api.Differ{Round: 1, Colour: []int{0, 0, 0, 0}, First: 1, Second: 2})
}

// P8.1: Refine: colours are those of the round in which they do not become more.
func TestRefine(t *testing.T) {
	expectColours(t, api.Graph{})
	expectColours(t, build([]int{99, 0, 7, 99}), 2, 0, 1, 2)
	// A node with an edge is greater than one of its type without, and less than one of the next type.
	expectColours(t, build([]int{3, 3, 5}, api.Edge{From: 0, To: 0}), 1, 0, 2)
	// An edge out of a node is less than one into it, and a node with both is between them.
	expectColours(t, directed(4, [2]int{0, 1}, [2]int{2, 3}, [2]int{3, 2}), 0, 2, 1, 1)
	// The direction counts before the type, and the type before the other end.
	expectColours(t, build([]int{1, 0, 0, 0}, api.Edge{Type: 1, From: 1, To: 0}, api.Edge{Type: 0, From: 2, To: 3}), 3, 1, 0, 2)
	expectColours(t, build([]int{0, 0, 2, 1}, api.Edge{Type: 0, From: 0, To: 2}, api.Edge{Type: 1, From: 1, To: 3}), 0, 1, 3, 2)
	// Parallel edges, types of edges up to 99, and loops, which count in both directions.
	expectColours(t, build([]int{0, 0, 0, 0}, api.Edge{Type: 5, From: 0, To: 1}, api.Edge{Type: 5, From: 2, To: 3}, api.Edge{Type: 5, From: 2, To: 3}), 0, 2, 1, 3)
	expectColours(t, build([]int{0, 0, 0, 0}, api.Edge{Type: 99, From: 0, To: 1}, api.Edge{Type: 98, From: 2, To: 3}), 1, 3, 0, 2)
	expectColours(t, build([]int{0, 0, 0, 0}, api.Edge{Type: 99, From: 0, To: 1}, api.Edge{Type: 0, From: 2, To: 3}), 1, 3, 0, 2)
	expectColours(t, directed(3, [2]int{1, 1}, [2]int{2, 0}), 2, 1, 0)
	// The edges at a node are ordered by their triples, not by their indices.
	expectColours(t, build([]int{0, 0, 0}, api.Edge{Type: 1, From: 0, To: 2}, api.Edge{Type: 0, From: 0, To: 2}, api.Edge{Type: 0, From: 1, To: 2}, api.Edge{Type: 1, From: 1, To: 2}), 0, 0, 1)
	// Colours cannot tell a cycle from others, or from loops.
	expectColours(t, directed(7, slices.Concat(cycle(0, 3), cycle(3, 4))...), 0, 0, 0, 0, 0, 0, 0)
	expectColours(t, directed(4, append(cycle(0, 3), [2]int{3, 3})...), 0, 0, 0, 0)
	// On a long path, colours grow from both ends until all are different.
	expectColours(t, directed(40, cycle(0, 40)[:39]...), count(0, 40)...)
}

// P8.1: Find and All: types, directions, loops, parallel edges, and their order by nodes, then edges.
func TestAll(t *testing.T) {
	none := api.Graph{}
	expectAll(t, none, none, api.Morphism{})
	expectAll(t, none, directed(1))
	expectAll(t, directed(1), none)
	expectAll(t, directed(2), directed(3))
	expectAll(t, directed(1, [2]int{0, 0}), directed(1))
	expectAll(t, directed(1), directed(1, [2]int{0, 0}))
	expectAll(t, build([]int{4}), build([]int{5}))
	expectAll(t, build([]int{4, 4}), build([]int{4, 5}))
	expectAll(t, build([]int{0}, api.Edge{Type: 1}), build([]int{0}, api.Edge{Type: 2}))
	expectAll(t, path(), vee())
	expectAll(t, build([]int{0, 1}, api.Edge{From: 0, To: 1}), build([]int{0, 1}, api.Edge{From: 1, To: 0}))
	expectAll(t, build([]int{0, 1}, api.Edge{From: 0, To: 1}), build([]int{1, 0}, api.Edge{From: 1, To: 0}), to([]int{1, 0}, 0))
	expectAll(t, vee(), vee(), to([]int{0, 1, 2}, 0, 1), to([]int{2, 1, 0}, 1, 0))
	expectAll(t, directed(3, cycle(0, 3)...), directed(3, [2]int{2, 1}, [2]int{0, 2}, [2]int{1, 0}),
		to([]int{0, 2, 1}, 1, 0, 2), to([]int{1, 0, 2}, 2, 1, 0), to([]int{2, 1, 0}, 0, 2, 1))
	// Both ends are settled by their other edges, and the parallel edges can be exchanged.
	expectAll(t, directed(2, [2]int{0, 1}, [2]int{1, 0}, [2]int{0, 1}), directed(2, [2]int{1, 0}, [2]int{1, 0}, [2]int{0, 1}),
		to([]int{1, 0}, 0, 2, 1), to([]int{1, 0}, 1, 2, 0))
	// By nodes first, then by edges.
	twins := directed(2, [2]int{0, 1}, [2]int{0, 1}, [2]int{1, 0}, [2]int{1, 0})
	expectAll(t, twins, twins,
		to([]int{0, 1}, 0, 1, 2, 3), to([]int{0, 1}, 0, 1, 3, 2), to([]int{0, 1}, 1, 0, 2, 3), to([]int{0, 1}, 1, 0, 3, 2),
		to([]int{1, 0}, 2, 3, 0, 1), to([]int{1, 0}, 2, 3, 1, 0), to([]int{1, 0}, 3, 2, 0, 1), to([]int{1, 0}, 3, 2, 1, 0))
}

// DOC.md, Rules: results share no memory with one another.
func TestMemory(t *testing.T) {
	twins := directed(2, [2]int{0, 1}, [2]int{0, 1}, [2]int{1, 0}, [2]int{1, 0})
	want, _ := iso.All(twins, twins)
	for i := range want {
		l, _ := iso.All(twins, twins)
		l[i].Nodes[0], l[i].Nodes[1], l[i].Edges[0], l[i].Edges[3] = 7, 7, 7, 7
		for k := range l {
			if k != i && !sameMap(l[k], want[k]) {
				t.Errorf("the isomorphism %d changes with the isomorphism %d: %v", k, i, l[k])
			}
		}
	}
	g := build([]int{5, 3})
	if d, _ := iso.Reason(g, directed(2)); len(d.Colour) == 1 {
		d.Colour[0] = 9
	}
	if l, _ := iso.Refine(g); len(l) == 2 {
		l[0] = 9
	}
	if !slices.Equal(g.Nodes, []int{5, 3}) {
		t.Errorf("the graph became %v", g)
	}
}

// P8.1: Orbits: as a partition, for graphs with symmetries of all their parts and without any.
func TestOrbits(t *testing.T) {
	expectOrbits(t, api.Graph{})
	expectOrbits(t, build([]int{3, 1, 3, 1, 2}), 0, 1, 0, 1, 4)
	expectOrbits(t, path(), 0, 1, 2)
	expectOrbits(t, vee(), 0, 1, 0)
	expectOrbits(t, mutual(4, cycle(0, 4)[:3]...), 0, 1, 1, 0)
	// Nodes of one colour need not be in one orbit.
	expectOrbits(t, directed(12, slices.Concat(cycle(0, 3), cycle(3, 5), cycle(8, 3), cycle(11, 1))...), 0, 0, 0, 3, 3, 3, 3, 3, 0, 0, 0, 11)
	expectOrbits(t, directed(12), make([]int, 12)...)
	expectOrbits(t, mutual(12, cycle(0, 12)...), make([]int, 12)...)
	expectOrbits(t, directed(12, cycle(0, 12)[:11]...), 0, 1, 2, 3, 4, 5, 6, 7, 8, 9, 10, 11)
	// Edges that are exchanged leave the nodes where they are.
	expectOrbits(t, directed(2, [2]int{0, 1}, [2]int{0, 1}), 0, 1)
}

// P8.1: Reason: the least round, then the least sign, and how many nodes have it.
func TestReason(t *testing.T) {
	none := api.Graph{}
	expectNoReason(t, none, none)
	expectReason(t, none, build([]int{9, 8}), api.Differ{Colour: []int{8}, Second: 1})
	expectReason(t, build([]int{9, 8, 9}), none, api.Differ{Colour: []int{8}, First: 1})
	expectReason(t, build([]int{9, 8, 9}), build([]int{8, 9}), api.Differ{Colour: []int{9}, First: 2, Second: 1})
	// The type counts before edges do, although the edges have lesser signs.
	expectReason(t, build([]int{0, 5}, api.Edge{From: 0, To: 0}), build([]int{0, 6}), api.Differ{Colour: []int{5}, First: 1})
	// A list is greater than its beginning.
	expectReason(t, directed(2, [2]int{0, 1}), directed(2), api.Differ{Round: 1, Colour: []int{0}, Second: 2})
	expectReason(t, directed(1), directed(1, [2]int{0, 0}), api.Differ{Round: 1, Colour: []int{0}, First: 1})
	expectReason(t, build([]int{4}, api.Edge{Type: 7}), build([]int{4}, api.Edge{Type: 99}), api.Differ{Round: 1, Colour: []int{0, 0, 7, 0, 1, 7, 0}, First: 1})
	// A sign has colours and not types of nodes.
	expectReason(t, build([]int{4, 9}, api.Edge{From: 1, To: 1}), build([]int{4, 9}, api.Edge{Type: 3, From: 1, To: 1}), api.Differ{Round: 1, Colour: []int{1, 0, 0, 1, 1, 0, 1}, First: 1})
	// The ends of paths are told apart first, and then what is next to them.
	expectReason(t, mutual(8, slices.Concat(cycle(0, 4)[:3], cycle(4, 4)[:3])...), mutual(8, slices.Concat(cycle(0, 3)[:2], cycle(3, 5)[:4])...),
		api.Differ{Round: 2, Colour: []int{0, 0, 0, 0, 0, 0, 0, 1, 0, 0, 1, 0, 0}, Second: 1})
	expectNoReason(t, directed(6, cycle(0, 6)...), directed(6, slices.Concat(cycle(0, 3), cycle(3, 3))...))
	expectNoReason(t, vee(), directed(3, [2]int{2, 0}, [2]int{1, 0}))
}

// P8.1: CheckReason: any reason with right numbers that differ is right, not the standard one alone; the colours are those of both graphs together.
func TestCheckReason(t *testing.T) {
	for i, c := range []struct {
		d    api.Differ
		want bool
	}{
		{api.Differ{Round: 1, Colour: []int{0, 0, 0, 0}, First: 1, Second: 2}, true},
		{api.Differ{Round: 1, Colour: []int{0, 0, 0, 0, 1, 0, 0}, First: 1}, true},
		{api.Differ{Round: 1, Colour: []int{0, 1, 0, 0}, First: 1}, true},
		{api.Differ{Round: 1, Colour: []int{0, 1, 0, 0, 1, 0, 0}, Second: 1}, true},
		{api.Differ{Round: 2, Colour: []int{0, 0, 0, 3}, Second: 2}, true},
		{api.Differ{Round: 2, Colour: []int{0, 0, 0, 1}, First: 1}, true},
		{api.Differ{Round: 2, Colour: []int{0, 0, 0, 1}, First: 1, Second: 2}, false},
		{api.Differ{Round: 3, Colour: []int{0, 0, 0, 1}, First: 1}, false},
		{api.Differ{Round: 3, Colour: []int{0, 0, 0, 2}, First: 1}, true},
		{api.Differ{Round: 40, Colour: []int{0, 0, 0, 2}, First: 1}, true},
		{api.Differ{Round: 40, Colour: []int{0, 0, 0, 4}, First: 1}, false},
		{api.Differ{Round: 40, Colour: []int{1, 0, 0, 4}, Second: 2}, true},
		{api.Differ{Round: 40, Colour: []int{0, 0, 0, 2}, Second: 2}, false},
		{api.Differ{Round: 41, Colour: []int{1, 0, 0, 4}, Second: 2}, false},
		{api.Differ{Round: -1, Colour: []int{0, 0, 0, 0}, First: 1, Second: 2}, false},
		{api.Differ{Round: 1, Colour: []int{0, 0, 0, 0}, First: 2, Second: 1}, false},
		{api.Differ{Round: 1, Colour: []int{0, 0, 0, 0}, First: 1, Second: 1}, false},
		{api.Differ{Round: 1, Colour: []int{0, 0, 0, 0}, First: 2, Second: 2}, false},
		{api.Differ{Round: 1, Colour: []int{0, 0, 0, 0}, First: -1, Second: 2}, false},
		{api.Differ{Round: 0, Colour: []int{0}, First: 3, Second: 3}, false},
		{api.Differ{Round: 0, Colour: []int{0}, First: 3, Second: 2}, false},
		{api.Differ{Round: 0, Colour: []int{1}}, false},
		{api.Differ{Round: 0, Colour: []int{1}, First: 1}, false},
		{api.Differ{}, false},
		{api.Differ{First: 1}, false},
		{api.Differ{Round: 1, Colour: []int{0, 0, 0}, First: 1, Second: 2}, false},
		{api.Differ{Round: 1, Colour: []int{0, 0, 0, 0, 0}, First: 1, Second: 2}, false},
		{api.Differ{Round: 1, Colour: []int{0}, First: 1, Second: 2}, false},
		{api.Differ{Round: 1, Colour: []int{0, 0}, First: 1, Second: 2}, false},
	} {
		if iso.CheckReason(path(), vee(), c.d) != c.want {
			t.Errorf("CheckReason %d, %v = %v", i, c.d, !c.want)
		}
	}
}

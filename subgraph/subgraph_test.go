package subgraph_test

import (
	"fmt"
	"reflect"
	"slices"
	"testing"

	"scarfjoint/api"
	"scarfjoint/subgraph"
)

// path returns the graph of the chapter's examples.
func path() api.Graph {
	return build([]int{0, 0, 0}, api.Edge{From: 0, To: 1}, api.Edge{From: 1, To: 2})
}

// mixed returns a graph with a loop, parallel edges, opposite edges, a node alone, and edges against the order of its nodes.
func mixed() api.Graph {
	return build([]int{5, 7, 5, 99, 0, 7},
		api.Edge{Type: 2, From: 4, To: 1},
		api.Edge{Type: 0, From: 5, To: 5},
		api.Edge{Type: 2, From: 4, To: 1},
		api.Edge{Type: 99, From: 1, To: 4},
		api.Edge{Type: 1, From: 2, To: 0},
		api.Edge{Type: 3, From: 5, To: 2})
}

// folded returns a graph that can be mapped to the graph mixed: to parallel edges and to one of them, to a loop, and with some nodes to one.
func folded() (api.Graph, api.Morphism) {
	a := build([]int{7, 0, 7, 0, 7, 5, 7},
		api.Edge{Type: 2, From: 1, To: 0},
		api.Edge{Type: 2, From: 3, To: 2},
		api.Edge{Type: 2, From: 3, To: 0},
		api.Edge{Type: 0, From: 4, To: 6},
		api.Edge{Type: 3, From: 6, To: 5})
	return a, to([]int{1, 4, 1, 4, 5, 2, 5}, 2, 2, 0, 1, 5)
}

// build returns a graph with some nodes and edges.
func build(nodes []int, edges ...api.Edge) api.Graph {
	return api.Graph{Nodes: nodes, Edges: edges}
}

// alike returns a graph with numbers of nodes of the type 0, and of loops of the type 0 at the first one.
func alike(nodes, edges int) api.Graph {
	return api.Graph{Nodes: make([]int, nodes), Edges: make([]api.Edge, edges)}
}

// part returns a part with some nodes and edges.
func part(nodes []int, edges ...int) api.Part {
	return api.Part{Nodes: nodes, Edges: edges}
}

// whole returns the part with all elements of a graph.
func whole(g api.Graph) api.Part {
	return part(count(0, len(g.Nodes)), count(0, len(g.Edges))...)
}

// to returns a morphism with the images of nodes and of edges.
func to(nodes []int, edges ...int) api.Morphism {
	return api.Morphism{Nodes: nodes, Edges: edges}
}

// count returns n numbers, from a first one on.
func count(first, n int) []int {
	var l []int
	for i := range n {
		l = append(l, first+i)
	}
	return l
}

// samePart reports whether two parts are equal; nil and empty lists are.
func samePart(p, q api.Part) bool {
	return slices.Equal(p.Nodes, q.Nodes) && slices.Equal(p.Edges, q.Edges)
}

// expectPart expects a part, and no error.
func expectPart(t *testing.T, about string, want, got api.Part, e api.Errno) {
	t.Helper()
	if !samePart(got, want) || e != api.OK {
		t.Errorf("%s is %v, %d, want %v", about, got, e, want)
	}
}

// expectClose expects the least part that contains some elements.
func expectClose(t *testing.T, g api.Graph, nodes, edges []int, want api.Part) {
	t.Helper()
	p, e := subgraph.Close(g, nodes, edges)
	expectPart(t, "Close", want, p, e)
}

// expectBoth expects the union and the intersection of two parts.
func expectBoth(t *testing.T, g api.Graph, p, q, union, intersection api.Part) {
	t.Helper()
	for _, l := range [][2]api.Part{{p, q}, {q, p}} {
		u, e := subgraph.Join(g, l[0], l[1])
		expectPart(t, "Join", union, u, e)
		i, e := subgraph.Meet(g, l[0], l[1])
		expectPart(t, "Meet", intersection, i, e)
	}
}

// expectExtract expects the graph of a part, with the part itself as its inclusion.
func expectExtract(t *testing.T, g api.Graph, p api.Part, want api.Graph) {
	t.Helper()
	h, m, e := subgraph.Extract(g, p)
	if !slices.Equal(h.Nodes, want.Nodes) || !slices.Equal(h.Edges, want.Edges) || e != api.OK {
		t.Errorf("Extract(%v, %v) = %v, %d, want %v", g, p, h, e, want)
	}
	if !slices.Equal(m.Nodes, p.Nodes) || !slices.Equal(m.Edges, p.Edges) {
		t.Errorf("Extract(%v, %v) has the inclusion %v", g, p, m)
	}
}

// expectBoundary expects the boundary of a part.
func expectBoundary(t *testing.T, g api.Graph, p api.Part, want ...int) {
	t.Helper()
	if l, e := subgraph.Boundary(g, p); !slices.Equal(l, want) || e != api.OK {
		t.Errorf("Boundary(%v, %v) = %v, %d, want %v", g, p, l, e, want)
	}
}

// expectAll expects all parts of a graph, in order.
func expectAll(t *testing.T, g api.Graph, want ...api.Part) {
	t.Helper()
	if l, e := subgraph.All(g); !slices.EqualFunc(l, want, samePart) || e != api.OK {
		t.Errorf("All(%v) = %v, %d, want %v", g, l, e, want)
	}
}

// P7.1: the chapter's examples.
func TestExamples(t *testing.T) {
	g := path()
	first, second := part([]int{0, 1}, 0), part([]int{1, 2}, 1)
	expectClose(t, g, nil, []int{0}, first)
	expectBoundary(t, g, first, 1)
	expectClose(t, g, nil, []int{1}, second)
	expectBoth(t, g, first, second, whole(g), part([]int{1}))
	expectAll(t, g,
		part(nil),
		part([]int{0}),
		part([]int{1}),
		part([]int{2}),
		part([]int{0, 1}),
		part([]int{0, 1}, 0),
		part([]int{0, 2}),
		part([]int{1, 2}),
		part([]int{1, 2}, 1),
		part([]int{0, 1, 2}),
		part([]int{0, 1, 2}, 0),
		part([]int{0, 1, 2}, 1),
		part([]int{0, 1, 2}, 0, 1))
}

// P7.1: Valid: nothing, everything, and parts with or without the edges between their nodes.
func TestValid(t *testing.T) {
	for i, c := range []struct {
		g api.Graph
		p api.Part
	}{
		{api.Graph{}, api.Part{}},
		{api.Graph{}, part([]int{}, []int{}...)},
		{mixed(), api.Part{}},
		{mixed(), whole(mixed())},
		{mixed(), part(count(0, 6))},
		{mixed(), part([]int{1, 4}, 0, 3)},
		{mixed(), part([]int{1, 4}, 2)},
		{mixed(), part([]int{0, 2, 5}, 1, 4, 5)},
		{mixed(), part([]int{5}, 1)},
		{mixed(), part([]int{3})},
		{alike(40, 80), whole(alike(40, 80))},
		{alike(40, 80), part([]int{0, 39}, 0, 79)},
	} {
		if e := subgraph.Valid(c.g, c.p); e != api.OK {
			t.Errorf("the right part %d has the error %d", i, e)
		}
	}
}

// P7.1: Close: elements in any order and repeated, with the ends of the edges that are given, and with no other edges.
func TestClose(t *testing.T) {
	expectClose(t, api.Graph{}, nil, nil, api.Part{})
	g := mixed()
	expectClose(t, g, nil, nil, api.Part{})
	expectClose(t, g, []int{4}, nil, part([]int{4}))
	expectClose(t, g, []int{4, 1}, nil, part([]int{1, 4}))
	expectClose(t, g, []int{5, 0, 5, 5, 3, 0}, nil, part([]int{0, 3, 5}))
	expectClose(t, g, nil, []int{1}, part([]int{5}, 1))
	expectClose(t, g, nil, []int{2}, part([]int{1, 4}, 2))
	expectClose(t, g, nil, []int{3, 0, 3}, part([]int{1, 4}, 0, 3))
	expectClose(t, g, nil, []int{5, 4}, part([]int{0, 2, 5}, 4, 5))
	expectClose(t, g, []int{3, 2}, []int{4, 4}, part([]int{0, 2, 3}, 4))
	expectClose(t, g, count(0, 6), count(0, 6), whole(g))
	expectClose(t, g, nil, []int{5, 4, 3, 2, 1, 0}, part([]int{0, 1, 2, 4, 5}, count(0, 6)...))
	expectClose(t, alike(40, 80), []int{39}, []int{79, 40}, part([]int{0, 39}, 40, 79))
	expectClose(t, alike(40, 80), slices.Repeat([]int{7}, 1000), slices.Repeat([]int{8}, 1000), part([]int{0, 7}, 8))
}

// P7.1: Join and Meet: nothing, everything, parts that share nothing, nodes alone, or nodes and edges.
func TestJoinAndMeet(t *testing.T) {
	none, g := api.Part{}, mixed()
	expectBoth(t, api.Graph{}, none, none, none, none)
	expectBoth(t, g, none, none, none, none)
	expectBoth(t, g, none, whole(g), whole(g), none)
	expectBoth(t, g, whole(g), whole(g), whole(g), whole(g))
	expectBoth(t, g, part([]int{5}, 1), part([]int{3}), part([]int{3, 5}, 1), none)
	expectBoth(t, g, part([]int{1, 4}, 0), part([]int{1, 4}, 2, 3), part([]int{1, 4}, 0, 2, 3), part([]int{1, 4}))
	expectBoth(t, g, part([]int{1, 4}, 0, 3), part([]int{1, 4}, 2, 3), part([]int{1, 4}, 0, 2, 3), part([]int{1, 4}, 3))
	expectBoth(t, g, part([]int{1, 2, 5}, 5), part([]int{0, 2, 3, 5}, 4, 5), part([]int{0, 1, 2, 3, 5}, 4, 5), part([]int{2, 5}, 5))
	expectBoth(t, alike(40, 80), part(count(0, 20), count(0, 40)...), part(count(0, 40), count(20, 60)...), whole(alike(40, 80)), part(count(0, 20), count(20, 20)...))
}

// P7.1: Extract: the elements in order, with edges between the new places of their ends.
func TestExtract(t *testing.T) {
	g := mixed()
	expectExtract(t, api.Graph{}, api.Part{}, api.Graph{})
	expectExtract(t, g, api.Part{}, api.Graph{})
	expectExtract(t, g, whole(g), g)
	expectExtract(t, g, part(count(0, 6)), build(g.Nodes))
	expectExtract(t, g, part([]int{3}), build([]int{99}))
	expectExtract(t, g, part([]int{5}, 1), build([]int{7}, api.Edge{}))
	expectExtract(t, g, part([]int{1, 3, 4}, 2, 3), build([]int{7, 99, 0}, api.Edge{Type: 2, From: 2, To: 0}, api.Edge{Type: 99, From: 0, To: 2}))
	expectExtract(t, g, part([]int{0, 2, 5}, 1, 4, 5), build([]int{5, 5, 7}, api.Edge{From: 2, To: 2}, api.Edge{Type: 1, From: 1, To: 0}, api.Edge{Type: 3, From: 2, To: 1}))
	expectExtract(t, alike(40, 80), part(append([]int{0}, count(21, 19)...), count(1, 79)...), alike(20, 79))
}

// P7.1: Image: each element once, ascending.
func TestImage(t *testing.T) {
	a, m := folded()
	for _, c := range []struct {
		a, b api.Graph
		m    api.Morphism
		want api.Part
	}{
		{api.Graph{}, api.Graph{}, to(nil), api.Part{}},
		{api.Graph{}, mixed(), to(nil), api.Part{}},
		{mixed(), mixed(), to(count(0, 6), count(0, 6)...), whole(mixed())},
		{a, mixed(), m, part([]int{1, 2, 4, 5}, 0, 1, 2, 5)},
		{build([]int{7, 0}), mixed(), to([]int{5, 4}), part([]int{4, 5})},
		{alike(40, 80), alike(1, 1), to(make([]int, 40), make([]int, 80)...), part([]int{0}, 0)},
		{alike(2, 3), alike(40, 80), to([]int{0, 39}, 79, 40, 79), part([]int{0, 39}, 40, 79)},
	} {
		p, e := subgraph.Image(c.a, c.b, c.m)
		expectPart(t, "Image", c.want, p, e)
	}
}

// P7.1: Preimage: all elements with their images in the part, and no edges where only their ends have.
func TestPreimage(t *testing.T) {
	a, m := folded()
	for _, c := range []struct{ p, want api.Part }{
		{api.Part{}, api.Part{}},
		{whole(mixed()), whole(a)},
		{part([]int{0, 3}), api.Part{}},
		{part([]int{1}), part([]int{0, 2})},
		{part([]int{1, 4}), part([]int{0, 1, 2, 3})},
		{part([]int{1, 4}, 0), part([]int{0, 1, 2, 3}, 2)},
		{part([]int{1, 4}, 2), part([]int{0, 1, 2, 3}, 0, 1)},
		{part([]int{1, 4}, 3), part([]int{0, 1, 2, 3})},
		{part([]int{5}, 1), part([]int{4, 6}, 3)},
		{part([]int{2, 3, 5}, 5), part([]int{4, 5, 6}, 4)},
		{part([]int{0, 1, 2, 4, 5}, 0, 1, 2, 4), part(count(0, 7), 0, 1, 2, 3)},
	} {
		p, e := subgraph.Preimage(a, mixed(), m, c.p)
		expectPart(t, "Preimage", c.want, p, e)
	}
	p, e := subgraph.Preimage(api.Graph{}, mixed(), to(nil), whole(mixed()))
	expectPart(t, "Preimage in the empty graph", api.Part{}, p, e)
	p, e = subgraph.Preimage(alike(40, 80), alike(1, 1), to(make([]int, 40), make([]int, 80)...), part([]int{0}))
	expectPart(t, "Preimage of a node", part(count(0, 40)), p, e)
	p, e = subgraph.Preimage(alike(40, 80), alike(1, 1), to(make([]int, 40), make([]int, 80)...), part([]int{0}, 0))
	expectPart(t, "Preimage of everything", whole(alike(40, 80)), p, e)
}

// P7.1: Boundary: sources and targets, loops, parallel edges, and edges between two nodes of the part.
func TestBoundary(t *testing.T) {
	g := mixed()
	expectBoundary(t, api.Graph{}, api.Part{})
	expectBoundary(t, g, api.Part{})
	expectBoundary(t, g, whole(g))
	expectBoundary(t, g, part(count(0, 6)), 0, 1, 2, 4, 5)
	expectBoundary(t, g, part([]int{3}))
	expectBoundary(t, g, part([]int{0, 3}), 0)
	expectBoundary(t, g, part([]int{4}), 4)
	expectBoundary(t, g, part([]int{1}), 1)
	expectBoundary(t, g, part([]int{1, 4}, 0, 2, 3))
	expectBoundary(t, g, part([]int{1, 4}, 0, 3), 1, 4)
	expectBoundary(t, g, part([]int{0, 2, 5}, 4, 5), 5)
	expectBoundary(t, g, part([]int{0, 2, 5}, 1, 4, 5))
	expectBoundary(t, g, part([]int{0, 2}, 4), 2)
	expectBoundary(t, g, part([]int{2, 3, 5}, 1, 5), 2)
	expectBoundary(t, alike(40, 80), part([]int{0, 39}, count(0, 79)...), 0)
	expectBoundary(t, alike(40, 80), part(count(1, 39)))
	expectBoundary(t, build([]int{0, 0}, api.Edge{From: 1, To: 0}), part(count(0, 2)), 0, 1)
}

// P7.1: All: ordered by the number of nodes, then by nodes, then by the number of edges, then by edges.
func TestAll(t *testing.T) {
	expectAll(t, api.Graph{}, api.Part{})
	expectAll(t, build([]int{99}), api.Part{}, part([]int{0}))
	expectAll(t, alike(1, 3), api.Part{},
		part([]int{0}),
		part([]int{0}, 0),
		part([]int{0}, 1),
		part([]int{0}, 2),
		part([]int{0}, 0, 1),
		part([]int{0}, 0, 2),
		part([]int{0}, 1, 2),
		part([]int{0}, 0, 1, 2))
	expectAll(t, build([]int{3, 1, 2}, api.Edge{Type: 1, From: 2, To: 2}, api.Edge{Type: 7, From: 2, To: 0}, api.Edge{From: 2, To: 2}), api.Part{},
		part([]int{0}),
		part([]int{1}),
		part([]int{2}),
		part([]int{2}, 0),
		part([]int{2}, 2),
		part([]int{2}, 0, 2),
		part([]int{0, 1}),
		part([]int{0, 2}),
		part([]int{0, 2}, 0),
		part([]int{0, 2}, 1),
		part([]int{0, 2}, 2),
		part([]int{0, 2}, 0, 1),
		part([]int{0, 2}, 0, 2),
		part([]int{0, 2}, 1, 2),
		part([]int{0, 2}, 0, 1, 2),
		part([]int{1, 2}),
		part([]int{1, 2}, 0),
		part([]int{1, 2}, 2),
		part([]int{1, 2}, 0, 2),
		part([]int{0, 1, 2}),
		part([]int{0, 1, 2}, 0),
		part([]int{0, 1, 2}, 1),
		part([]int{0, 1, 2}, 2),
		part([]int{0, 1, 2}, 0, 1),
		part([]int{0, 1, 2}, 0, 2),
		part([]int{0, 1, 2}, 1, 2),
		part([]int{0, 1, 2}, 0, 1, 2))
	for n, want := range []int{33, 34, 64} {
		g := alike([]int{1, 2, 6}[n], []int{5, 4, 0}[n])
		if l, e := subgraph.All(g); len(l) != want || e != api.OK {
			t.Errorf("All(%v) has %d parts, %d", g, len(l), e)
		}
	}
}

// results are the results of all functions that return lists.
type results struct {
	parts    []api.Part
	graph    api.Graph
	morphism api.Morphism
	boundary []int
}

// call returns the results for a graph, two parts of it, and a morphism to it.
func call(a, g api.Graph, m api.Morphism, p, q api.Part) results {
	closed, _ := subgraph.Close(g, p.Nodes, p.Edges)
	union, _ := subgraph.Join(g, p, q)
	intersection, _ := subgraph.Meet(g, p, q)
	image, _ := subgraph.Image(a, g, m)
	preimage, _ := subgraph.Preimage(a, g, m, p)
	l, _ := subgraph.All(g)
	x := results{parts: append(l, closed, union, intersection, image, preimage)}
	x.graph, x.morphism, _ = subgraph.Extract(g, p)
	x.boundary, _ = subgraph.Boundary(g, p)
	return x
}

// write overwrites lists, up to their capacities.
func write(lists ...[]int) {
	for _, l := range lists {
		l = l[:cap(l)]
		for i := range l {
			l[i] = -77
		}
	}
}

// The section Rules: results share no memory with arguments or with one another, and no state is kept.
func TestOwnMemory(t *testing.T) {
	a, g, m := build([]int{0, 0}, api.Edge{To: 1}), build([]int{0, 0, 0}, api.Edge{To: 1}, api.Edge{To: 1}), to([]int{0, 1}, 1)
	p, q := part([]int{0, 1}, 1), part([]int{0, 1, 2}, 0, 1)
	want, got := call(a, g, m, p, q), call(a, g, m, p, q)
	if len(want.parts) != 19 {
		t.Errorf("%d parts", len(want.parts))
	}
	for i, x := range got.parts {
		if !reflect.DeepEqual(x, want.parts[i]) {
			t.Errorf("the part %d was %v, want %v", i, x, want.parts[i])
		}
		write(x.Nodes, x.Edges)
	}
	if !reflect.DeepEqual([]any{got.graph, got.morphism, got.boundary}, []any{want.graph, want.morphism, want.boundary}) {
		t.Errorf("what is written to parts changes other results: %v", got)
	}
	write(got.graph.Nodes, got.morphism.Nodes, got.morphism.Edges, got.boundary)
	got.graph.Edges[0] = api.Edge{Type: -77}
	again := call(a, g, m, p, q)
	if !reflect.DeepEqual(again, want) {
		t.Errorf("what is written to results changes an argument: %v, %v, %v, %v, %v", a, g, m, p, q)
	}
	write(a.Nodes, g.Nodes, m.Nodes, m.Edges, p.Nodes, p.Edges, q.Nodes, q.Edges)
	a.Edges[0], g.Edges[1] = api.Edge{Type: -77}, api.Edge{Type: -77}
	if !reflect.DeepEqual(again, want) {
		t.Errorf("what is written to arguments changes results: %v", again)
	}
}

// spare returns a list with other numbers behind it, up to its capacity.
func spare(l ...int) []int {
	return append(l, -5, -6, -7, -8, -9)[:len(l)]
}

// The section Rules: no function changes its arguments, nor what lies behind a list in the memory of the caller.
func TestArguments(t *testing.T) {
	a, g := build(spare(0, 0), api.Edge{To: 1}), build(spare(0, 0, 0), api.Edge{To: 1}, api.Edge{To: 1})
	m, p, q := to(spare(0, 1), spare(1)...), part(spare(0, 1), spare(1)...), part(spare(0, 1, 2), spare(0, 1)...)
	call(a, g, m, p, q)
	want := []string{"0 0", "0 0 0", "0 1", "1", "0 1", "1", "0 1 2", "0 1"}
	for i, l := range [][]int{a.Nodes, g.Nodes, m.Nodes, m.Edges, p.Nodes, p.Edges, q.Nodes, q.Edges} {
		if got := fmt.Sprint(l[:len(l)+5]); got != "["+want[i]+" -5 -6 -7 -8 -9]" {
			t.Errorf("the list %d became %s", i, got)
		}
	}
}

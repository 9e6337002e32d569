package graph_test

import (
	"reflect"
	"slices"
	"testing"

	"scarfjoint/api"
	"scarfjoint/graph"
)

// example returns the graph of the chapter's examples.
func example() api.Graph {
	return build([]int{3, 1, 1}, api.Edge{Type: 0, From: 0, To: 1}, api.Edge{Type: 0, From: 0, To: 2})
}

// mixed returns a graph with a loop, parallel edges, opposite edges, a node alone, and edges against the order of its nodes.
func mixed() api.Graph {
	return build([]int{5, 7, 5, 99, 0, 7},
		api.Edge{Type: 2, From: 4, To: 1},
		api.Edge{Type: 0, From: 5, To: 5},
		api.Edge{Type: 2, From: 4, To: 1},
		api.Edge{Type: 99, From: 1, To: 4},
		api.Edge{Type: 1, From: 2, To: 0},
		api.Edge{Type: 3, From: 5, To: 2})
}

// build returns a graph with some nodes and edges.
func build(nodes []int, edges ...api.Edge) api.Graph {
	return api.Graph{Nodes: nodes, Edges: edges}
}

// alike returns a graph with numbers of nodes of the type 0, and of loops of the type 0 at the first one.
func alike(nodes, edges int) api.Graph {
	return api.Graph{Nodes: make([]int, nodes), Edges: make([]api.Edge, edges)}
}

// count returns n numbers, from a first one on.
func count(first, n int) []int {
	var l []int
	for i := range n {
		l = append(l, first+i)
	}
	return l
}

// sameMap reports whether two morphisms are equal; nil and empty lists are.
func sameMap(a, b api.Morphism) bool {
	return slices.Equal(a.Nodes, b.Nodes) && slices.Equal(a.Edges, b.Edges)
}

// samePart reports whether two parts are equal; nil and empty lists are.
func samePart(a, b api.Part) bool {
	return slices.Equal(a.Nodes, b.Nodes) && slices.Equal(a.Edges, b.Edges)
}

// sameGraph is what graph.Same has to be.
func sameGraph(a, b api.Graph) bool {
	return slices.Equal(a.Nodes, b.Nodes) && slices.Equal(a.Edges, b.Edges)
}

// expectRemove expects the graph that is left, and where its elements come from.
func expectRemove(t *testing.T, g api.Graph, nodes, edges []int, want api.Graph, m api.Morphism) {
	t.Helper()
	if h, n, e := graph.Remove(g, nodes, edges); !sameGraph(h, want) || !sameMap(n, m) || e != api.OK {
		t.Errorf("Remove(%v, %v, %v) = %v, %v, %d, want %v, %v", g, nodes, edges, h, n, e, want, m)
	}
}

// expectComponents expects components.
func expectComponents(t *testing.T, g api.Graph, want ...api.Part) {
	t.Helper()
	if l, e := graph.Components(g); !slices.EqualFunc(l, want, samePart) || e != api.OK {
		t.Errorf("Components(%v) = %v, %d, want %v", g, l, e, want)
	}
}

// expectIncident expects the edges into and out of a node.
func expectIncident(t *testing.T, g api.Graph, node int, in, out []int) {
	t.Helper()
	if l, m, e := graph.Incident(g, node); !slices.Equal(l, in) || !slices.Equal(m, out) || e != api.OK {
		t.Errorf("Incident(%v, %d) = %v, %v, %d, want %v, %v", g, node, l, m, e, in, out)
	}
}

// expectReorder expects the graph in another order.
func expectReorder(t *testing.T, g api.Graph, nodes, edges []int, want api.Graph) {
	t.Helper()
	if h, e := graph.Reorder(g, api.Morphism{Nodes: nodes, Edges: edges}); !sameGraph(h, want) || e != api.OK {
		t.Errorf("Reorder(%v, %v, %v) = %v, %d, want %v", g, nodes, edges, h, e, want)
	}
}

// P5.1: the chapter's examples.
func TestExamples(t *testing.T) {
	g := example()
	expectComponents(t, g, api.Part{Nodes: []int{0, 1, 2}, Edges: []int{0, 1}})
	expectRemove(t, g, []int{1}, []int{0}, build([]int{3, 1}, api.Edge{Type: 0, From: 0, To: 1}), api.Morphism{Nodes: []int{0, -1, 1}, Edges: []int{-1, 0}})
	if h, m, e := graph.Remove(g, []int{1}, nil); !reflect.DeepEqual(h, api.Graph{}) || !reflect.DeepEqual(m, api.Morphism{}) || e != api.ErrDangling {
		t.Errorf("Remove of the node 1 alone: %v, %v, %d", h, m, e)
	}
}

// P5.1: AddNode: the node comes last, and has the next index, whatever its type is.
func TestAddNode(t *testing.T) {
	for _, g := range []api.Graph{{}, example(), mixed(), alike(39, 80)} {
		for _, kind := range []int{0, 1, 5, 99} {
			want := build(slices.Concat(g.Nodes, []int{kind}), g.Edges...)
			if h, i, e := graph.AddNode(g, kind); !sameGraph(h, want) || i != len(g.Nodes) || e != api.OK {
				t.Errorf("AddNode(%v, %d) = %v, %d, %d", g, kind, h, i, e)
			}
		}
	}
}

// P5.1: AddEdge: the edge comes last, and has the next index, also where it is a loop or like another edge.
func TestAddEdge(t *testing.T) {
	for _, g := range []api.Graph{example(), mixed(), alike(40, 79), alike(1, 0)} {
		last := len(g.Nodes) - 1
		for _, x := range []api.Edge{{}, {Type: 99, From: last, To: 0}, {Type: 2, From: 0, To: last}, {Type: 1, From: last, To: last}} {
			want := build(g.Nodes, slices.Concat(g.Edges, []api.Edge{x})...)
			if h, i, e := graph.AddEdge(g, x); !sameGraph(h, want) || i != len(g.Edges) || e != api.OK {
				t.Errorf("AddEdge(%v, %v) = %v, %d, %d", g, x, h, i, e)
			}
		}
	}
}

// P5.1: Remove: nothing, everything, edges alone, nodes without edges, and nodes with all of their edges.
func TestRemove(t *testing.T) {
	g := mixed()
	expectRemove(t, api.Graph{}, nil, nil, api.Graph{}, api.Morphism{})
	expectRemove(t, g, nil, nil, g, api.Morphism{Nodes: count(0, 6), Edges: count(0, 6)})
	all := api.Morphism{Nodes: slices.Repeat([]int{-1}, 6), Edges: slices.Repeat([]int{-1}, 6)}
	expectRemove(t, g, count(0, 6), count(0, 6), api.Graph{}, all)
	expectRemove(t, g, nil, count(0, 6), build(g.Nodes), api.Morphism{Nodes: count(0, 6), Edges: all.Edges})
	expectRemove(t, g, []int{3}, nil, build([]int{5, 7, 5, 0, 7},
		api.Edge{Type: 2, From: 3, To: 1},
		api.Edge{Type: 0, From: 4, To: 4},
		api.Edge{Type: 2, From: 3, To: 1},
		api.Edge{Type: 99, From: 1, To: 3},
		api.Edge{Type: 1, From: 2, To: 0},
		api.Edge{Type: 3, From: 4, To: 2}), api.Morphism{Nodes: []int{0, 1, 2, -1, 3, 4}, Edges: count(0, 6)})
	expectRemove(t, g, []int{1, 4}, []int{0, 2, 3}, build([]int{5, 5, 99, 7},
		api.Edge{Type: 0, From: 3, To: 3},
		api.Edge{Type: 1, From: 1, To: 0},
		api.Edge{Type: 3, From: 3, To: 1}), api.Morphism{Nodes: []int{0, -1, 1, 2, -1, 3}, Edges: []int{-1, 0, -1, -1, 1, 2}})
	expectRemove(t, g, []int{0, 5}, []int{0, 1, 4, 5}, build([]int{7, 5, 99, 0},
		api.Edge{Type: 2, From: 3, To: 0},
		api.Edge{Type: 99, From: 0, To: 3}), api.Morphism{Nodes: []int{-1, 0, 1, 2, 3, -1}, Edges: []int{-1, -1, 0, 1, -1, -1}})
}

// P5.1: Union: the elements of the first graph come first, and empty graphs add nothing.
func TestUnion(t *testing.T) {
	none, both := api.Graph{}, build([]int{3, 1, 1, 5, 7, 5, 99, 0, 7},
		api.Edge{Type: 0, From: 0, To: 1},
		api.Edge{Type: 0, From: 0, To: 2},
		api.Edge{Type: 2, From: 7, To: 4},
		api.Edge{Type: 0, From: 8, To: 8},
		api.Edge{Type: 2, From: 7, To: 4},
		api.Edge{Type: 99, From: 4, To: 7},
		api.Edge{Type: 1, From: 5, To: 3},
		api.Edge{Type: 3, From: 8, To: 5})
	for _, c := range []struct{ a, b, want api.Graph }{
		{none, none, none},
		{example(), none, example()},
		{none, mixed(), mixed()},
		{example(), mixed(), both},
		{alike(40, 80), none, alike(40, 80)},
		{none, alike(40, 80), alike(40, 80)},
		{alike(40, 3), build(nil), alike(40, 3)},
	} {
		u, m, n, e := graph.Union(c.a, c.b)
		first := api.Morphism{Nodes: count(0, len(c.a.Nodes)), Edges: count(0, len(c.a.Edges))}
		second := api.Morphism{Nodes: count(len(c.a.Nodes), len(c.b.Nodes)), Edges: count(len(c.a.Edges), len(c.b.Edges))}
		if !sameGraph(u, c.want) || !sameMap(m, first) || !sameMap(n, second) || e != api.OK {
			t.Errorf("Union(%v, %v) = %v, %v, %v, %d, want %v, %v, %v", c.a, c.b, u, m, n, e, c.want, first, second)
		}
	}
	if u, _, n, e := graph.Union(alike(1, 79), alike(39, 1)); len(u.Nodes) != 40 || len(u.Edges) != 80 || n.Nodes[38] != 39 || n.Edges[0] != 79 || e != api.OK {
		t.Errorf("Union up to the bounds: %v, %v, %d", u, n, e)
	}
}

// P5.1: Incident: parallel edges, opposite ones, no ones, and a loop, which is in both lists.
func TestIncident(t *testing.T) {
	expectIncident(t, example(), 0, nil, []int{0, 1})
	expectIncident(t, example(), 2, []int{1}, nil)
	g := mixed()
	expectIncident(t, g, 0, []int{4}, nil)
	expectIncident(t, g, 1, []int{0, 2}, []int{3})
	expectIncident(t, g, 2, []int{5}, []int{4})
	expectIncident(t, g, 3, nil, nil)
	expectIncident(t, g, 4, []int{3}, []int{0, 2})
	expectIncident(t, g, 5, []int{1}, []int{1, 5})
	expectIncident(t, alike(40, 80), 0, count(0, 80), count(0, 80))
	expectIncident(t, alike(40, 80), 39, nil, nil)
}

// P5.1: Components: by their least nodes, each with ascending nodes and edges, and connected along edges in any direction.
func TestComponents(t *testing.T) {
	expectComponents(t, api.Graph{})
	expectComponents(t, alike(1, 0), api.Part{Nodes: []int{0}})
	expectComponents(t, alike(3, 2), api.Part{Nodes: []int{0}, Edges: []int{0, 1}}, api.Part{Nodes: []int{1}}, api.Part{Nodes: []int{2}})
	expectComponents(t, mixed(),
		api.Part{Nodes: []int{0, 2, 5}, Edges: []int{1, 4, 5}},
		api.Part{Nodes: []int{1, 4}, Edges: []int{0, 2, 3}},
		api.Part{Nodes: []int{3}})
	into, out := alike(3, 0), alike(3, 0)
	into.Edges = []api.Edge{{From: 0, To: 2}, {From: 1, To: 2}}
	out.Edges = []api.Edge{{From: 2, To: 0}, {From: 2, To: 1}}
	expectComponents(t, into, api.Part{Nodes: []int{0, 1, 2}, Edges: []int{0, 1}})
	expectComponents(t, out, api.Part{Nodes: []int{0, 1, 2}, Edges: []int{0, 1}})
	late := alike(4, 0)
	late.Edges = []api.Edge{{From: 3, To: 2}, {From: 1, To: 0}, {From: 3, To: 1}}
	expectComponents(t, late, api.Part{Nodes: []int{0, 1, 2, 3}, Edges: []int{0, 1, 2}})
	path := alike(40, 0)
	for i := range 39 {
		path.Edges = append(path.Edges, api.Edge{From: i * 7 % 40, To: (i + 1) * 7 % 40})
	}
	expectComponents(t, path, api.Part{Nodes: count(0, 40), Edges: count(0, 39)})
}

// P5.1: Reorder: each element goes where the morphism says, and each edge keeps its ends.
func TestReorder(t *testing.T) {
	expectReorder(t, api.Graph{}, nil, []int{}, api.Graph{})
	g := mixed()
	expectReorder(t, g, count(0, 6), count(0, 6), g)
	expectReorder(t, example(), []int{2, 0, 1}, []int{0, 1}, build([]int{1, 1, 3}, api.Edge{Type: 0, From: 2, To: 0}, api.Edge{Type: 0, From: 2, To: 1}))
	expectReorder(t, g, []int{1, 2, 3, 4, 5, 0}, []int{2, 3, 4, 5, 0, 1}, build([]int{7, 5, 7, 5, 99, 0},
		api.Edge{Type: 1, From: 3, To: 1},
		api.Edge{Type: 3, From: 0, To: 3},
		api.Edge{Type: 2, From: 5, To: 2},
		api.Edge{Type: 0, From: 0, To: 0},
		api.Edge{Type: 2, From: 5, To: 2},
		api.Edge{Type: 99, From: 2, To: 5}))
}

// P5.1: Same: equal lists, in any graphs, also those with an error.
func TestSame(t *testing.T) {
	wrong := build([]int{-1, 100}, api.Edge{Type: -7, From: 9, To: -9})
	for i, l := range [][2]api.Graph{
		{{}, {}},
		{{}, {Nodes: []int{}, Edges: []api.Edge{}}},
		{example(), example()},
		{mixed(), mixed()},
		{wrong, build(slices.Clone(wrong.Nodes), slices.Clone(wrong.Edges)...)},
		{alike(41, 81), alike(41, 81)},
	} {
		if !graph.Same(l[0], l[1]) || !graph.Same(l[1], l[0]) {
			t.Errorf("Same of the equal graphs %d is false", i)
		}
	}
	x := api.Edge{Type: 1, From: 0, To: 1}
	g := build([]int{2, 2}, x, x)
	for i, h := range []api.Graph{
		{},
		build([]int{2, 2}),
		build([]int{2, 2}, x),
		build([]int{2, 2}, x, x, x),
		build([]int{2}, x, x),
		build([]int{2, 2, 2}, x, x),
		build([]int{2, 3}, x, x),
		build([]int{3, 2}, x, x),
		build([]int{2, 2}, x, api.Edge{Type: 2, From: 0, To: 1}),
		build([]int{2, 2}, x, api.Edge{Type: 1, From: 1, To: 1}),
		build([]int{2, 2}, x, api.Edge{Type: 1, From: 0, To: 0}),
		build([]int{2, 2}, api.Edge{Type: 1, From: 1, To: 0}, x),
	} {
		if graph.Same(g, h) || graph.Same(h, g) {
			t.Errorf("Same of the different graph %d is true", i)
		}
	}
	if graph.Same(build([]int{1, 2}), build([]int{2, 1})) {
		t.Error("Same does not look at the order of nodes")
	}
}

// roomy returns a graph of which the lists share memory with lists with further elements, which it returns, too.
func roomy() (api.Graph, []int, []api.Edge) {
	g := mixed()
	nodes := append(slices.Clone(g.Nodes), 77, 78)
	edges := append(slices.Clone(g.Edges), api.Edge{Type: 77}, api.Edge{Type: 78})
	return build(nodes[:6], edges[:6]...), nodes, edges
}

// write overwrites a list, up to its capacity.
func write(l []int) {
	l = l[:cap(l)]
	for i := range l {
		l[i] = -77
	}
}

// writeGraph overwrites the lists of a graph, up to their capacities.
func writeGraph(g api.Graph) {
	write(g.Nodes)
	edges := g.Edges[:cap(g.Edges)]
	for i := range edges {
		edges[i].Type = -77
	}
}

// results returns all results of all functions for a graph, with equal lists in their arguments.
func results(g api.Graph) ([]api.Graph, [][]int) {
	order := api.Morphism{Nodes: count(0, 6), Edges: count(0, 6)}
	a, _, _ := graph.AddNode(g, 1)
	b, _, _ := graph.AddEdge(g, api.Edge{})
	c, m, _ := graph.Remove(g, nil, nil)
	d, _, _ := graph.Remove(g, []int{3}, []int{1})
	u, v, w, _ := graph.Union(g, g)
	x, y, z, _ := graph.Union(g, api.Graph{})
	r, _ := graph.Reorder(g, order)
	in, out, _ := graph.Incident(g, 5)
	lists := [][]int{m.Nodes, m.Edges, v.Nodes, v.Edges, w.Nodes, w.Edges, y.Nodes, y.Edges, z.Nodes, z.Edges, in, out}
	parts, _ := graph.Components(g)
	for _, p := range parts {
		lists = append(lists, p.Nodes, p.Edges)
	}
	return []api.Graph{a, b, c, d, u, x, r}, append(lists, order.Nodes, order.Edges)
}

// The section Rules: results share no memory with arguments or with one another, and no state is kept.
func TestOwnMemory(t *testing.T) {
	g, nodes, edges := roomy()
	wantGraphs, wantLists := results(mixed())
	graphs, lists := results(g)
	for i := range graphs {
		if !reflect.DeepEqual(graphs[i], wantGraphs[i]) {
			t.Errorf("the graph %d was %v, want %v", i, graphs[i], wantGraphs[i])
		}
		writeGraph(graphs[i])
	}
	for i := range lists {
		if !reflect.DeepEqual(lists[i], wantLists[i]) {
			t.Errorf("the list %d was %v, want %v", i, lists[i], wantLists[i])
		}
		write(lists[i])
	}
	if !sameGraph(g, mixed()) || !slices.Equal(nodes[6:], []int{77, 78}) || edges[6].Type != 77 || edges[7].Type != 78 {
		t.Errorf("what is written to results changes an argument: %v, %v, %v", g, nodes, edges)
	}
	graphs, lists = results(g)
	writeGraph(g)
	if !reflect.DeepEqual(graphs, wantGraphs) || !reflect.DeepEqual(lists, wantLists) {
		t.Error("what is written to an argument changes results")
	}
}

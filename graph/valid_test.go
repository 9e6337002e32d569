package graph_test

import (
	"math"
	"reflect"
	"slices"
	"strconv"
	"testing"

	"scarfjoint/api"
	"scarfjoint/graph"
)

// changed returns the graph mixed with a change.
func changed(change func(g *api.Graph)) api.Graph {
	g := mixed()
	change(&g)
	return g
}

// outside returns numbers that are not from 0 to n - 1.
func outside(n int) []int {
	return []int{math.MinInt, -100, -2, -1, n, n + 1, n + 100, math.MaxInt}
}

// expectError expects an error, and that every other result of the call is its zero value, or an empty list.
func expectError(t *testing.T, about string, want, got api.Errno, results ...any) {
	t.Helper()
	if got != want {
		t.Errorf("%s: the error is %d, want %d", about, got, want)
	}
	for i, x := range results {
		if v := reflect.ValueOf(x); !v.IsZero() && !(v.Kind() == reflect.Slice && v.Len() == 0) {
			t.Errorf("%s: the result %d with an error is %v", about, i, x)
		}
	}
}

// expectAll expects that all functions but Same have the error of a graph, whatever their other arguments are.
func expectAll(t *testing.T, about string, g api.Graph, want api.Errno) {
	t.Helper()
	expectError(t, about+", Valid", want, graph.Valid(g))
	for _, i := range []int{0, -1, 1000} {
		h, k, e := graph.AddNode(g, i)
		expectError(t, about+", AddNode", want, e, h, k)
		h, k, e = graph.AddEdge(g, api.Edge{Type: i, From: i, To: i})
		expectError(t, about+", AddEdge", want, e, h, k)
		in, out, e := graph.Incident(g, i)
		expectError(t, about+", Incident", want, e, in, out)
	}
	for _, l := range [][]int{nil, {0}, {1, 0}, {-1}} {
		h, m, e := graph.Remove(g, l, l)
		expectError(t, about+", Remove", want, e, h, m)
		h, e = graph.Reorder(g, api.Morphism{Nodes: l, Edges: l})
		expectError(t, about+", Reorder", want, e, h)
	}
	h, e := graph.Reorder(g, api.Morphism{Nodes: count(0, len(g.Nodes)), Edges: count(0, len(g.Edges))})
	expectError(t, about+", Reorder", want, e, h)
	parts, e := graph.Components(g)
	expectError(t, about+", Components", want, e, parts)
	for i, l := range [][2]api.Graph{{g, {}}, {{}, g}, {g, g}, {g, alike(40, 80)}, {alike(40, 80), g}} {
		h, m, n, e := graph.Union(l[0], l[1])
		expectError(t, about+", Union "+strconv.Itoa(i), want, e, h, m, n)
	}
}

// P5.1: what a graph may be, up to its bounds.
func TestRight(t *testing.T) {
	for i, g := range []api.Graph{
		{},
		{Nodes: []int{}, Edges: []api.Edge{}},
		example(),
		mixed(),
		alike(40, 0),
		alike(1, 80),
		alike(40, 80),
		build([]int{99, 0}, api.Edge{Type: 99, From: 1, To: 0}, api.Edge{Type: 0, From: 0, To: 1}),
		build(slices.Repeat([]int{99}, 40), slices.Repeat([]api.Edge{{Type: 99, From: 39, To: 39}}, 80)...),
	} {
		if e := graph.Valid(g); e != api.OK {
			t.Errorf("the right graph %d has the error %d", i, e)
		}
	}
}

// P5.1: the numbers that no graph may have: types, and ends of edges.
func TestRange(t *testing.T) {
	for _, x := range outside(100) {
		about := "the type " + strconv.Itoa(x)
		expectAll(t, about+" of the first node", changed(func(g *api.Graph) { g.Nodes[0] = x }), api.ErrRange)
		expectAll(t, about+" of the last node", changed(func(g *api.Graph) { g.Nodes[5] = x }), api.ErrRange)
		expectAll(t, about+" of the first edge", changed(func(g *api.Graph) { g.Edges[0].Type = x }), api.ErrRange)
		expectAll(t, about+" of the last edge", changed(func(g *api.Graph) { g.Edges[5].Type = x }), api.ErrRange)
	}
	for _, x := range outside(6) {
		about := "the end " + strconv.Itoa(x)
		expectAll(t, about+", From", changed(func(g *api.Graph) { g.Edges[2].From = x }), api.ErrRange)
		expectAll(t, about+", To", changed(func(g *api.Graph) { g.Edges[2].To = x }), api.ErrRange)
		expectAll(t, about+", From of the last edge", changed(func(g *api.Graph) { g.Edges[5].From = x }), api.ErrRange)
		expectAll(t, about+", To of the last edge", changed(func(g *api.Graph) { g.Edges[5].To = x }), api.ErrRange)
	}
	expectAll(t, "an edge without nodes", build(nil, api.Edge{}), api.ErrRange)
}

// P5.1: graphs that are too large, which comes before all other errors.
func TestTooLarge(t *testing.T) {
	for i, g := range []api.Graph{
		alike(41, 0),
		alike(1, 81),
		alike(40, 81),
		alike(41, 80),
		alike(41, 81),
		alike(0, 81),
		alike(1000, 1000),
		build(slices.Repeat([]int{-1}, 41)),
		build([]int{0}, slices.Repeat([]api.Edge{{Type: 100, From: 1, To: -1}}, 81)...),
		build([]int{100}, slices.Repeat([]api.Edge{{}}, 81)...),
		build(make([]int, 41), api.Edge{Type: -1}),
	} {
		expectAll(t, "the too large graph "+strconv.Itoa(i), g, api.ErrTooLarge)
	}
}

// P5.1: Union: the error of a, then that of b, then both together.
func TestUnionErrors(t *testing.T) {
	large, wrong := alike(41, 0), build([]int{100})
	for i, c := range []struct {
		a, b api.Graph
		want api.Errno
	}{
		{large, wrong, api.ErrTooLarge},
		{wrong, large, api.ErrRange},
		{alike(40, 0), wrong, api.ErrRange},
		{wrong, alike(40, 0), api.ErrRange},
		{alike(40, 0), alike(1, 0), api.ErrTooLarge},
		{alike(1, 0), alike(40, 0), api.ErrTooLarge},
		{alike(20, 0), alike(21, 0), api.ErrTooLarge},
		{alike(1, 80), alike(1, 1), api.ErrTooLarge},
		{alike(1, 1), alike(1, 80), api.ErrTooLarge},
		{alike(1, 40), alike(1, 41), api.ErrTooLarge},
		{alike(40, 80), alike(40, 80), api.ErrTooLarge},
		{alike(20, 40), alike(20, 40), api.OK},
	} {
		u, m, n, e := graph.Union(c.a, c.b)
		if c.want == api.OK {
			u, m, n = api.Graph{}, api.Morphism{}, api.Morphism{}
		}
		expectError(t, "Union "+strconv.Itoa(i), c.want, e, u, m, n)
	}
}

// P5.1: AddNode: no type, then no room.
func TestAddNodeErrors(t *testing.T) {
	for _, g := range []api.Graph{{}, mixed(), alike(39, 0), alike(40, 0)} {
		for _, kind := range outside(100) {
			h, i, e := graph.AddNode(g, kind)
			expectError(t, "AddNode of "+strconv.Itoa(kind), api.ErrRange, e, h, i)
		}
	}
	for _, kind := range []int{0, 1, 99} {
		h, i, e := graph.AddNode(alike(40, 80), kind)
		expectError(t, "AddNode to 40 nodes", api.ErrTooLarge, e, h, i)
		h, i, e = graph.AddNode(alike(40, 0), kind)
		expectError(t, "AddNode to 40 nodes", api.ErrTooLarge, e, h, i)
	}
}

// P5.1: AddEdge: no type or no end, then no room.
func TestAddEdgeErrors(t *testing.T) {
	for _, g := range []api.Graph{{}, mixed(), alike(1, 79), alike(1, 80), alike(40, 80)} {
		for _, x := range outside(100) {
			h, i, e := graph.AddEdge(g, api.Edge{Type: x})
			expectError(t, "AddEdge of the type "+strconv.Itoa(x), api.ErrRange, e, h, i)
		}
		for _, x := range outside(len(g.Nodes)) {
			h, i, e := graph.AddEdge(g, api.Edge{From: x})
			expectError(t, "AddEdge from "+strconv.Itoa(x), api.ErrRange, e, h, i)
			h, i, e = graph.AddEdge(g, api.Edge{To: x})
			expectError(t, "AddEdge to "+strconv.Itoa(x), api.ErrRange, e, h, i)
		}
	}
	h, i, e := graph.AddEdge(api.Graph{}, api.Edge{})
	expectError(t, "AddEdge without nodes", api.ErrRange, e, h, i)
	for _, n := range []int{1, 40} {
		h, i, e := graph.AddEdge(alike(n, 80), api.Edge{Type: 99})
		expectError(t, "AddEdge to 80 edges", api.ErrTooLarge, e, h, i)
	}
}

// P5.1: Remove: the first element with an error decides, nodes before edges, and what dangles comes last.
func TestRemoveErrors(t *testing.T) {
	for i, c := range []struct {
		nodes, edges []int
		want         api.Errno
	}{
		{[]int{3, 3}, nil, api.ErrOrder},
		{[]int{3, 2}, nil, api.ErrOrder},
		{[]int{1, 3, 2}, nil, api.ErrOrder},
		{nil, []int{2, 2}, api.ErrOrder},
		{nil, []int{5, 0}, api.ErrOrder},
		{nil, []int{0, 2, 1}, api.ErrOrder},
		{[]int{2, 1, 6}, nil, api.ErrOrder},
		{[]int{6, 2, 1}, nil, api.ErrRange},
		{[]int{2, 6, 1}, nil, api.ErrRange},
		{[]int{2, -1}, nil, api.ErrRange},
		{[]int{6, 6}, nil, api.ErrRange},
		{nil, []int{2, 1, 6}, api.ErrOrder},
		{nil, []int{6, 2, 1}, api.ErrRange},
		{nil, []int{2, -1}, api.ErrRange},
		{[]int{3, 3}, []int{6}, api.ErrOrder},
		{[]int{6}, []int{1, 1}, api.ErrRange},
		{[]int{0}, []int{6}, api.ErrRange},
		{[]int{0}, []int{1, 1}, api.ErrOrder},
		{[]int{0, 0}, nil, api.ErrOrder},
		{[]int{0, 6}, nil, api.ErrRange},
		{[]int{0}, nil, api.ErrDangling},
		{[]int{2}, []int{4}, api.ErrDangling},
		{[]int{2}, []int{5}, api.ErrDangling},
		{[]int{5}, []int{5}, api.ErrDangling},
		{[]int{4}, []int{0, 3}, api.ErrDangling},
		{[]int{4}, []int{0, 2}, api.ErrDangling},
		{[]int{1, 4}, []int{0, 3}, api.ErrDangling},
		{count(0, 6), []int{0, 1, 2, 3, 4}, api.ErrDangling},
	} {
		h, m, e := graph.Remove(mixed(), c.nodes, c.edges)
		expectError(t, "Remove "+strconv.Itoa(i), c.want, e, h, m)
	}
	for _, x := range outside(6) {
		h, m, e := graph.Remove(mixed(), []int{x}, nil)
		expectError(t, "Remove of the node "+strconv.Itoa(x), api.ErrRange, e, h, m)
		h, m, e = graph.Remove(mixed(), nil, []int{x})
		expectError(t, "Remove of the edge "+strconv.Itoa(x), api.ErrRange, e, h, m)
	}
	h, m, e := graph.Remove(alike(2, 0), nil, []int{0})
	expectError(t, "Remove of an edge from nodes alone", api.ErrRange, e, h, m)
	h, m, e = graph.Remove(alike(40, 80), slices.Repeat([]int{3}, 1000), nil)
	expectError(t, "Remove of a node again and again", api.ErrOrder, e, h, m)
}

// P5.1: Incident of a node that is not there.
func TestIncidentErrors(t *testing.T) {
	for _, g := range []api.Graph{{}, mixed(), alike(40, 80)} {
		for _, x := range outside(len(g.Nodes)) {
			in, out, e := graph.Incident(g, x)
			expectError(t, "Incident of "+strconv.Itoa(x), api.ErrRange, e, in, out)
		}
	}
}

// P5.1: Reorder: the lengths of both lists, then the nodes, then the edges; in each list, numbers out of range come first.
func TestReorderErrors(t *testing.T) {
	right := count(0, 6)
	for i, c := range []struct {
		nodes, edges []int
		want         api.Errno
	}{
		{nil, nil, api.ErrArity},
		{right, nil, api.ErrArity},
		{nil, right, api.ErrArity},
		{right[:5], right, api.ErrArity},
		{right, right[:5], api.ErrArity},
		{count(0, 7), right, api.ErrArity},
		{right, count(0, 7), api.ErrArity},
		{[]int{0, 0, 0, 0, 0, 9}, right[:5], api.ErrArity},
		{count(0, 7), []int{0, 0, 0, 0, 0, 9}, api.ErrArity},
		{[]int{0, 1, 2, 3, 4, 0}, right, api.ErrExists},
		{[]int{0, 1, 2, 3, 5, 5}, right, api.ErrExists},
		{right, []int{1, 1, 2, 3, 4, 5}, api.ErrExists},
		{right, []int{5, 1, 2, 3, 4, 5}, api.ErrExists},
		{[]int{0, 0, 2, 3, 4, 6}, right, api.ErrRange},
		{[]int{6, 6, 2, 3, 4, 5}, right, api.ErrRange},
		{right, []int{0, 0, 2, 3, 4, -1}, api.ErrRange},
		{[]int{0, 0, 2, 3, 4, 5}, []int{0, 1, 2, 3, 4, 6}, api.ErrExists},
		{[]int{0, 1, 2, 3, 4, 6}, []int{0, 0, 2, 3, 4, 5}, api.ErrRange},
	} {
		h, e := graph.Reorder(mixed(), api.Morphism{Nodes: c.nodes, Edges: c.edges})
		expectError(t, "Reorder "+strconv.Itoa(i), c.want, e, h)
	}
	for _, x := range outside(6) {
		for at := range right {
			l := slices.Clone(right)
			l[at] = x
			h, e := graph.Reorder(mixed(), api.Morphism{Nodes: l, Edges: right})
			expectError(t, "Reorder with the node "+strconv.Itoa(x), api.ErrRange, e, h)
			h, e = graph.Reorder(mixed(), api.Morphism{Nodes: right, Edges: l})
			expectError(t, "Reorder with the edge "+strconv.Itoa(x), api.ErrRange, e, h)
		}
	}
	h, e := graph.Reorder(api.Graph{}, api.Morphism{Nodes: []int{0}})
	expectError(t, "Reorder of the empty graph", api.ErrArity, e, h)
}

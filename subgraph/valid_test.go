package subgraph_test

import (
	"math"
	"reflect"
	"slices"
	"strconv"
	"testing"

	"scarfjoint/api"
	"scarfjoint/subgraph"
)

// right returns a part of the graph mixed.
func right() api.Part {
	return part([]int{0, 2, 3, 5}, 1, 4, 5)
}

// fault makes a graph or a part of it wrong.
type fault struct {
	about string
	want  api.Errno
	do    func(g *api.Graph, p *api.Part)
}

// faultsOfGraph returns the errors of a graph in their order.
func faultsOfGraph() []fault {
	return []fault{
		{"too many nodes", api.ErrTooLarge, func(g *api.Graph, p *api.Part) { g.Nodes = append(g.Nodes, make([]int, 35)...) }},
		{"too many edges", api.ErrTooLarge, func(g *api.Graph, p *api.Part) { g.Edges = append(g.Edges, make([]api.Edge, 75)...) }},
		{"the type of a node", api.ErrRange, func(g *api.Graph, p *api.Part) { g.Nodes[1] = 100 }},
		{"the type of an edge", api.ErrRange, func(g *api.Graph, p *api.Part) { g.Edges[0].Type = -1 }},
		{"an end of an edge", api.ErrRange, func(g *api.Graph, p *api.Part) { g.Edges[3].To = 6 }},
	}
}

// faultsOfPart returns the errors of a part in their order. Those of one list follow one another by their places in it.
func faultsOfPart() []fault {
	return []fault{
		{"the first node is missing", api.ErrRange, func(g *api.Graph, p *api.Part) { p.Nodes[0] = -1 }},
		{"the second node is the first one", api.ErrOrder, func(g *api.Graph, p *api.Part) { p.Nodes[1] = p.Nodes[0] }},
		{"the third node is missing", api.ErrRange, func(g *api.Graph, p *api.Part) { p.Nodes[2] = 6 }},
		{"a node after it", api.ErrOrder, func(g *api.Graph, p *api.Part) { p.Nodes = append(p.Nodes, 3) }},
		{"the first edge is missing", api.ErrRange, func(g *api.Graph, p *api.Part) { p.Edges[0] = 6 }},
		{"the second edge is less than the first one", api.ErrOrder, func(g *api.Graph, p *api.Part) { p.Edges[1] = 0 }},
		{"the third edge is missing", api.ErrRange, func(g *api.Graph, p *api.Part) { p.Edges[2] = -1 }},
		{"an edge after it", api.ErrOrder, func(g *api.Graph, p *api.Part) { p.Edges = append(p.Edges, 3) }},
		{"an edge without its source", api.ErrDangling, func(g *api.Graph, p *api.Part) {
			p.Nodes = slices.DeleteFunc(p.Nodes, func(i int) bool { return i == 5 })
		}},
		{"an edge without its target", api.ErrDangling, func(g *api.Graph, p *api.Part) {
			p.Nodes = slices.DeleteFunc(p.Nodes, func(i int) bool { return i == 0 })
		}},
	}
}

// outside returns numbers that are not from 0 to n - 1.
func outside(n int) []int {
	return []int{math.MinInt, -100, -2, -1, n, n + 1, n + 100, math.MaxInt}
}

// expectError expects an error, and that every other result of the call is its zero value, or an empty list.
func expectError(t *testing.T, about string, want, got api.Errno, results ...any) {
	t.Helper()
	if got != want {
		t.Errorf("%s: the error is %d, want %d", about, got, want)
	}
	for i, x := range results {
		if v := reflect.ValueOf(x); !v.IsZero() && !(v.Kind() == reflect.Slice && v.Len() == 0) {
			t.Errorf("%s: the result %d with an error is %v", about, i, x)
		}
	}
}

// expectWrongBoth expects that Join and Meet have an error.
func expectWrongBoth(t *testing.T, about string, g api.Graph, p, q api.Part, want api.Errno) {
	t.Helper()
	union, e := subgraph.Join(g, p, q)
	expectError(t, about+", Join", want, e, union)
	intersection, e := subgraph.Meet(g, p, q)
	expectError(t, about+", Meet", want, e, intersection)
}

// expectWrong expects that all functions have the error of a graph and a part of it, whatever their other arguments are.
func expectWrong(t *testing.T, about string, g api.Graph, p api.Part, want api.Errno) {
	t.Helper()
	expectError(t, about+", Valid", want, subgraph.Valid(g, p))
	h, m, e := subgraph.Extract(g, p)
	expectError(t, about+", Extract", want, e, h, m)
	l, e := subgraph.Boundary(g, p)
	expectError(t, about+", Boundary", want, e, l)
	identity := to(count(0, len(g.Nodes)), count(0, len(g.Edges))...)
	preimage, e := subgraph.Preimage(g, g, identity, p)
	expectError(t, about+", Preimage", want, e, preimage)
	for _, q := range []api.Part{{}, right(), p, part([]int{-1}), part([]int{1, 0}), part(nil, 0)} {
		expectWrongBoth(t, about, g, p, q, want)
	}
}

// P7.1: the errors of a graph and a part of it, each one alone and each two together.
func TestErrors(t *testing.T) {
	all := slices.Concat(faultsOfGraph(), faultsOfPart())
	for i, first := range all {
		g, p := mixed(), right()
		first.do(&g, &p)
		expectWrong(t, first.about, g, p, first.want)
		for _, second := range all[i+1:] {
			g, p := mixed(), right()
			second.do(&g, &p)
			first.do(&g, &p)
			expectWrong(t, first.about+" and "+second.about, g, p, first.want)
		}
	}
}

// P7.1: Join and Meet: the error of p, then that of q.
func TestErrorsOfBoth(t *testing.T) {
	for _, second := range faultsOfPart() {
		g, q := mixed(), right()
		second.do(&g, &q)
		for _, p := range []api.Part{{}, right(), whole(g)} {
			expectWrongBoth(t, "q: "+second.about, g, p, q, second.want)
		}
		for _, first := range faultsOfPart() {
			p := right()
			first.do(&g, &p)
			expectWrongBoth(t, "p: "+first.about+", q: "+second.about, g, p, q, first.want)
		}
	}
}

// P7.1: in the list of nodes and in that of edges, the first element with an error decides; what dangles comes last.
func TestErrorsOfElements(t *testing.T) {
	for i, c := range []struct {
		p    api.Part
		want api.Errno
	}{
		{part([]int{3, 3}), api.ErrOrder},
		{part([]int{3, 2}), api.ErrOrder},
		{part([]int{1, 3, 2}), api.ErrOrder},
		{part([]int{2, 1, 6}), api.ErrOrder},
		{part([]int{6, 2, 1}), api.ErrRange},
		{part([]int{2, 6, 1}), api.ErrRange},
		{part([]int{2, -1}), api.ErrRange},
		{part([]int{6, 6}), api.ErrRange},
		{part(count(0, 7)), api.ErrRange},
		{part(slices.Repeat([]int{3}, 1000)), api.ErrOrder},
		{part(nil, 2, 2), api.ErrOrder},
		{part(nil, 2, 1, 6), api.ErrOrder},
		{part(nil, 6, 2, 1), api.ErrRange},
		{part(nil, 2, -1), api.ErrRange},
		{part(nil, 5, 0), api.ErrOrder},
		{part(count(0, 6), count(0, 7)...), api.ErrRange},
		{part(count(0, 6), slices.Repeat([]int{3}, 1000)...), api.ErrOrder},
		{part([]int{3, 3}, 6), api.ErrOrder},
		{part([]int{6}, 1, 1), api.ErrRange},
		{part([]int{1}, 0), api.ErrDangling},
		{part([]int{4}, 0), api.ErrDangling},
		{part([]int{4}, 3), api.ErrDangling},
		{part([]int{0, 1, 2, 3, 4}, 1), api.ErrDangling},
		{part([]int{1, 4, 5}, 0, 1, 2, 3, 5), api.ErrDangling},
		{part(nil, 0), api.ErrDangling},
		{part(nil, count(0, 6)...), api.ErrDangling},
	} {
		expectWrong(t, "the part "+strconv.Itoa(i), mixed(), c.p, c.want)
	}
	expectWrong(t, "a node of the empty graph", api.Graph{}, part([]int{0}), api.ErrRange)
	expectWrong(t, "an edge of the empty graph", api.Graph{}, part(nil, 0), api.ErrRange)
	expectWrong(t, "an edge of nodes alone", alike(40, 0), part(count(0, 40), 0), api.ErrRange)
}

// P7.1: the numbers that no part may have, at each place of its lists.
func TestRange(t *testing.T) {
	for _, x := range outside(6) {
		for i := range right().Nodes {
			p := right()
			p.Nodes[i] = x
			expectWrong(t, "the node "+strconv.Itoa(x), mixed(), p, api.ErrRange)
		}
		for i := range right().Edges {
			p := right()
			p.Edges[i] = x
			expectWrong(t, "the edge "+strconv.Itoa(x), mixed(), p, api.ErrRange)
		}
	}
}

// P7.1: Close: the error of the graph, then elements that are not there.
func TestErrorsOfClose(t *testing.T) {
	for _, f := range faultsOfGraph() {
		g, p := mixed(), right()
		f.do(&g, &p)
		for _, l := range [][]int{nil, {0}, {-1}, {1000}} {
			p, e := subgraph.Close(g, l, l)
			expectError(t, "Close with "+f.about, f.want, e, p)
		}
	}
	for _, x := range outside(6) {
		for _, l := range [][]int{{x}, {x, 0}, {0, x}, {5, 5, 2, x, 1}} {
			p, e := subgraph.Close(mixed(), l, nil)
			expectError(t, "Close of the nodes", api.ErrRange, e, p)
			p, e = subgraph.Close(mixed(), nil, l)
			expectError(t, "Close of the edges", api.ErrRange, e, p)
			p, e = subgraph.Close(mixed(), []int{0}, l)
			expectError(t, "Close of a node and the edges", api.ErrRange, e, p)
			p, e = subgraph.Close(mixed(), l, l)
			expectError(t, "Close of both", api.ErrRange, e, p)
		}
	}
	p, e := subgraph.Close(api.Graph{}, []int{0}, nil)
	expectError(t, "Close of a node of the empty graph", api.ErrRange, e, p)
	p, e = subgraph.Close(alike(40, 0), nil, []int{0})
	expectError(t, "Close of an edge of nodes alone", api.ErrRange, e, p)
}

// wrongMorphisms returns morphisms to the graph mixed that have an error.
func wrongMorphisms() map[api.Errno][]api.Morphism {
	_, m := folded()
	change := func(i, image int) api.Morphism {
		n := to(slices.Clone(m.Nodes), slices.Clone(m.Edges)...)
		if i < len(n.Nodes) {
			n.Nodes[i] = image
		} else {
			n.Edges[i-len(n.Nodes)] = image
		}
		return n
	}
	return map[api.Errno][]api.Morphism{
		api.ErrArity:    {{}, to(m.Nodes), to(nil, m.Edges...), to(append(m.Nodes, 1), m.Edges...), to(m.Nodes, m.Edges[:4]...)},
		api.ErrRange:    {change(0, -1), change(6, 6), change(7, 6), change(11, -1)},
		api.ErrType:     {change(0, 4), change(5, 3), change(7, 1), change(10, 4)},
		api.ErrConflict: {change(0, 5), change(4, 1), change(5, 0)},
	}
}

// P7.1: Image and Preimage: the error of the morphism, then for Preimage that of the part.
func TestErrorsOfMorphisms(t *testing.T) {
	a, m := folded()
	for want, l := range wrongMorphisms() {
		for i, wrong := range l {
			about := "the morphism " + strconv.Itoa(i)
			p, e := subgraph.Image(a, mixed(), wrong)
			expectError(t, "Image of "+about, want, e, p)
			for _, q := range []api.Part{{}, whole(mixed()), part([]int{-1}), part([]int{1, 0}), part(nil, 0)} {
				p, e := subgraph.Preimage(a, mixed(), wrong, q)
				expectError(t, "Preimage with "+about, want, e, p)
			}
		}
	}
	for _, f := range faultsOfGraph() {
		g, p := mixed(), api.Part{}
		f.do(&g, &p)
		for i, l := range [][2]api.Graph{{g, {}}, {{}, g}, {g, g}, {a, g}, {g, mixed()}, {g, build([]int{100})}} {
			about := f.about + ", the graphs " + strconv.Itoa(i)
			p, e := subgraph.Image(l[0], l[1], m)
			expectError(t, "Image with "+about, f.want, e, p)
			p, e = subgraph.Preimage(l[0], l[1], m, part([]int{1, 0}))
			expectError(t, "Preimage with "+about, f.want, e, p)
		}
	}
	for _, f := range faultsOfPart() {
		g, p := mixed(), right()
		f.do(&g, &p)
		q, e := subgraph.Preimage(a, mixed(), m, p)
		expectError(t, "Preimage of a part, "+f.about, f.want, e, q)
	}
}

// P7.1: All: the error of the graph, then more than 6 elements.
func TestErrorsOfAll(t *testing.T) {
	for _, f := range faultsOfGraph() {
		g, p := mixed(), right()
		f.do(&g, &p)
		l, e := subgraph.All(g)
		expectError(t, "All with "+f.about, f.want, e, l)
	}
	for _, size := range []api.Pair{{A: 7}, {A: 6, B: 1}, {A: 4, B: 3}, {A: 1, B: 6}, {A: 40}, {A: 1, B: 80}, {A: 40, B: 80}} {
		l, e := subgraph.All(alike(size.A, size.B))
		expectError(t, "All of too many elements", api.ErrTooLarge, e, l)
	}
	l, e := subgraph.All(build([]int{0, 0, 0, 0, 0, 0, 100}))
	expectError(t, "All of too many nodes, one of them with a wrong type", api.ErrRange, e, l)
	l, e = subgraph.All(alike(0, 6))
	expectError(t, "All of edges without nodes", api.ErrRange, e, l)
}

package graph_test

import (
	"math/rand/v2"
	"slices"
	"testing"

	"scarfjoint/api"
	"scarfjoint/graph"
)

// small visits the graphs with up to 3 nodes and up to 2 edges; types tell all elements apart.
func small(visit func(g api.Graph)) {
	for n := range 4 {
		ends := n * n
		nodes := count(1, n)
		visit(build(nodes))
		for i := range ends {
			x := api.Edge{Type: 4, From: i / n, To: i % n}
			visit(build(nodes, x))
			for k := range ends {
				visit(build(nodes, x, api.Edge{Type: 5, From: k / n, To: k % n}))
			}
		}
	}
}

// random returns a graph with random types and ends; with few edges it has many components.
func random(r *rand.Rand, maxNodes, maxEdges int) api.Graph {
	var g api.Graph
	for range r.IntN(maxNodes + 1) {
		g.Nodes = append(g.Nodes, r.IntN(100))
	}
	if len(g.Nodes) == 0 {
		return g
	}
	for range r.IntN(maxEdges + 1) {
		g.Edges = append(g.Edges, api.Edge{Type: r.IntN(100), From: r.IntN(len(g.Nodes)), To: r.IntN(len(g.Nodes))})
	}
	return g
}

// graphs visits all small graphs and random larger ones.
func graphs(seed uint64, visit func(r *rand.Rand, g api.Graph)) {
	r := rand.New(rand.NewPCG(5, seed))
	small(func(g api.Graph) { visit(r, g) })
	for i := range 300 {
		visit(r, random(r, 1+i%40, 1+i%80))
	}
}

// subset returns the numbers below n for which bits of a set are 1.
func subset(n int, set uint64) []int {
	var l []int
	for i := range n {
		if set>>i&1 == 1 {
			l = append(l, i)
		}
	}
	return l
}

// inverse returns the inverse of a permutation.
func inverse(l []int) []int {
	m := make([]int, len(l))
	for i, x := range l {
		m[x] = i
	}
	return m
}

// permutations visits the permutations of n numbers.
func permutations(n int, visit func(l []int)) {
	l := count(0, n)
	var swap func(i int)
	swap = func(i int) {
		if i == n {
			visit(slices.Clone(l))
			return
		}
		for k := i; k < n; k++ {
			l[i], l[k] = l[k], l[i]
			swap(i + 1)
			l[i], l[k] = l[k], l[i]
		}
	}
	swap(0)
}

// expectPlaces expects that a list leads what stays to the first places, in its order, and the rest to -1; it returns how many stay.
func expectPlaces(t *testing.T, places []int, n int, removed []int) int {
	t.Helper()
	if len(places) != n {
		t.Fatalf("%d places of %d elements", len(places), n)
	}
	next := 0
	for i, p := range places {
		switch {
		case slices.Contains(removed, i) && p != -1, !slices.Contains(removed, i) && p != next:
			t.Errorf("the places without %v are %v", removed, places)
		}
		if p >= 0 {
			next++
		}
	}
	return next
}

// expectLeft expects that what Remove leaves are the other elements, with the types and ends that they had; or that an edge would dangle.
func expectLeft(t *testing.T, g api.Graph, nodes, edges []int) {
	t.Helper()
	h, m, e := graph.Remove(g, nodes, edges)
	dangles := func(i int, x api.Edge) bool {
		return !slices.Contains(edges, i) && (slices.Contains(nodes, x.From) || slices.Contains(nodes, x.To))
	}
	for i, x := range g.Edges {
		if dangles(i, x) {
			expectError(t, "Remove of a node with edges", api.ErrDangling, e, h, m)
			return
		}
	}
	if e != api.OK || graph.Valid(h) != api.OK {
		t.Fatalf("Remove(%v, %v, %v) = %v, %d", g, nodes, edges, h, e)
	}
	if expectPlaces(t, m.Nodes, len(g.Nodes), nodes) != len(h.Nodes) || expectPlaces(t, m.Edges, len(g.Edges), edges) != len(h.Edges) {
		t.Fatalf("Remove(%v, %v, %v) leaves %v", g, nodes, edges, h)
	}
	expectMapped(t, g, h, m)
}

// expectMapped expects that a morphism preserves types and ends where it is not -1.
func expectMapped(t *testing.T, g, h api.Graph, m api.Morphism) {
	t.Helper()
	for i, p := range m.Nodes {
		if p >= 0 && h.Nodes[p] != g.Nodes[i] {
			t.Errorf("the node %d of %v became the node %d of %v", i, g, p, h)
		}
	}
	for i, p := range m.Edges {
		x := g.Edges[i]
		if p >= 0 && h.Edges[p] != (api.Edge{Type: x.Type, From: m.Nodes[x.From], To: m.Nodes[x.To]}) {
			t.Errorf("the edge %d of %v became the edge %d of %v", i, g, p, h)
		}
	}
}

// P5.1 and P5.2: what Remove leaves has the types and ends that it had, for all parts of small graphs.
func TestLeft(t *testing.T) {
	small(func(g api.Graph) {
		for nodes := range uint64(1) << len(g.Nodes) {
			for edges := range uint64(1) << len(g.Edges) {
				expectLeft(t, g, subset(len(g.Nodes), nodes), subset(len(g.Edges), edges))
			}
		}
	})
}

// P5.1 and P5.2: the same for random parts of larger graphs, with all edges of the nodes, and with all but one of them.
func TestLeftOfLarger(t *testing.T) {
	graphs(1, func(r *rand.Rand, g api.Graph) {
		nodes := subset(len(g.Nodes), r.Uint64()&r.Uint64())
		chosen := subset(min(len(g.Edges), 64), r.Uint64()&r.Uint64())
		var edges []int
		for i, x := range g.Edges {
			if slices.Contains(chosen, i) || slices.Contains(nodes, x.From) || slices.Contains(nodes, x.To) {
				edges = append(edges, i)
			}
		}
		expectLeft(t, g, nodes, edges)
		if len(edges) > 0 {
			expectLeft(t, g, nodes, slices.Delete(edges, 0, 1))
		}
	})
}

// expectUnion expects that both inclusions preserve types and ends, and that a union without the elements of one graph is the other one.
func expectUnion(t *testing.T, a, b api.Graph) {
	t.Helper()
	u, m, n, e := graph.Union(a, b)
	if e != api.OK || graph.Valid(u) != api.OK {
		t.Fatalf("Union(%v, %v) = %v, %d", a, b, u, e)
	}
	expectMapped(t, a, u, m)
	expectMapped(t, b, u, n)
	if g, _, e := graph.Remove(u, n.Nodes, n.Edges); !sameGraph(g, a) || e != api.OK {
		t.Errorf("Union(%v, %v) without the second graph is %v, %d", a, b, g, e)
	}
	if g, _, e := graph.Remove(u, m.Nodes, m.Edges); !sameGraph(g, b) || e != api.OK {
		t.Errorf("Union(%v, %v) without the first graph is %v, %d", a, b, g, e)
	}
	if components(t, u) != components(t, a)+components(t, b) {
		t.Errorf("Union(%v, %v) has %d components", a, b, components(t, u))
	}
}

// components returns the number of components.
func components(t *testing.T, g api.Graph) int {
	t.Helper()
	l, e := graph.Components(g)
	if e != api.OK {
		t.Errorf("Components(%v) has the error %d", g, e)
	}
	return len(l)
}

// P5.1 and P5.2: unions of all pairs of small graphs, and of random larger ones.
func TestUnions(t *testing.T) {
	small(func(a api.Graph) {
		small(func(b api.Graph) { expectUnion(t, a, b) })
	})
	r := rand.New(rand.NewPCG(5, 2))
	for i := range 300 {
		expectUnion(t, random(r, 1+i%20, 40), random(r, 20, 1+i%40))
	}
}

// reach returns for all nodes which ones can be reached from them along edges, in any direction.
func reach(g api.Graph) [][]bool {
	n := len(g.Nodes)
	l := make([][]bool, n)
	for i := range l {
		l[i] = make([]bool, n)
		l[i][i] = true
	}
	for _, x := range g.Edges {
		l[x.From][x.To], l[x.To][x.From] = true, true
	}
	for via := range n {
		for i := range n {
			for k := range n {
				l[i][k] = l[i][k] || l[i][via] && l[via][k]
			}
		}
	}
	return l
}

// reachable returns the components by the definition.
func reachable(g api.Graph) []api.Part {
	var parts []api.Part
	for i, to := range reach(g) {
		if slices.Contains(to[:i], true) {
			continue
		}
		var p api.Part
		for k := range g.Nodes {
			if to[k] {
				p.Nodes = append(p.Nodes, k)
			}
		}
		for k, x := range g.Edges {
			if to[x.From] && to[x.To] {
				p.Edges = append(p.Edges, k)
			}
		}
		parts = append(parts, p)
	}
	return parts
}

// expectOnce expects that lists contain each number below n once.
func expectOnce(t *testing.T, n int, lists ...[]int) {
	t.Helper()
	all := slices.Concat(lists...)
	slices.Sort(all)
	if !slices.Equal(all, count(0, n)) {
		t.Errorf("%v do not contain each of %d elements once", lists, n)
	}
}

// P5.1 and P5.2: the components are those of the definition, and contain each element once.
func TestReachable(t *testing.T) {
	graphs(3, func(r *rand.Rand, g api.Graph) {
		expectComponents(t, g, reachable(g)...)
		var nodes, edges [][]int
		parts, _ := graph.Components(g)
		for _, p := range parts {
			nodes, edges = append(nodes, p.Nodes), append(edges, p.Edges)
		}
		expectOnce(t, len(g.Nodes), nodes...)
		expectOnce(t, len(g.Edges), edges...)
	})
}

// expectReordered expects that a graph in another order has its elements where the morphism says, and that the inverse one leads back.
func expectReordered(t *testing.T, g api.Graph, nodes, edges []int) {
	t.Helper()
	m := api.Morphism{Nodes: nodes, Edges: edges}
	h, e := graph.Reorder(g, m)
	if e != api.OK || len(h.Nodes) != len(g.Nodes) || len(h.Edges) != len(g.Edges) {
		t.Fatalf("Reorder(%v, %v) = %v, %d", g, m, h, e)
	}
	expectMapped(t, g, h, m)
	back, e := graph.Reorder(h, api.Morphism{Nodes: inverse(nodes), Edges: inverse(edges)})
	if !graph.Same(back, g) || !sameGraph(back, g) || e != api.OK {
		t.Errorf("Reorder(%v, %v) and back is %v, %d", g, m, back, e)
	}
}

// P5.1 and P5.2: all orders of small graphs, and random ones of larger graphs.
func TestOrders(t *testing.T) {
	small(func(g api.Graph) {
		permutations(len(g.Nodes), func(nodes []int) {
			permutations(len(g.Edges), func(edges []int) { expectReordered(t, g, nodes, edges) })
		})
	})
	graphs(4, func(r *rand.Rand, g api.Graph) {
		expectReordered(t, g, r.Perm(len(g.Nodes)), r.Perm(len(g.Edges)))
	})
}

// P5.1: a further element has the next index, and without it the graph is what it was.
func TestFurther(t *testing.T) {
	graphs(5, func(r *rand.Rand, g api.Graph) {
		if len(g.Nodes) < 40 {
			kind := r.IntN(100)
			h, i, _ := graph.AddNode(g, kind)
			if h.Nodes[i] != kind {
				t.Errorf("AddNode(%v, %d) = %v, %d", g, kind, h, i)
			}
			expectRemove(t, h, []int{i}, nil, g, api.Morphism{Nodes: append(count(0, i), -1), Edges: count(0, len(g.Edges))})
		}
		if len(g.Nodes) > 0 && len(g.Edges) < 80 {
			x := api.Edge{Type: r.IntN(100), From: r.IntN(len(g.Nodes)), To: r.IntN(len(g.Nodes))}
			h, i, _ := graph.AddEdge(g, x)
			if h.Edges[i] != x {
				t.Errorf("AddEdge(%v, %v) = %v, %d", g, x, h, i)
			}
			expectRemove(t, h, nil, []int{i}, g, api.Morphism{Nodes: count(0, len(g.Nodes)), Edges: append(count(0, i), -1)})
		}
	})
}

// P5.1: the edges into and out of all nodes are all edges, each one where it ends and begins.
func TestAllIncident(t *testing.T) {
	graphs(6, func(r *rand.Rand, g api.Graph) {
		var into, outOf [][]int
		for node := range g.Nodes {
			in, out, e := graph.Incident(g, node)
			if e != api.OK || !slices.IsSorted(in) || !slices.IsSorted(out) {
				t.Errorf("Incident(%v, %d) = %v, %v, %d", g, node, in, out, e)
			}
			for _, i := range in {
				if g.Edges[i].To != node {
					t.Errorf("Incident(%v, %d) has the edge %d into it", g, node, i)
				}
			}
			for _, i := range out {
				if g.Edges[i].From != node {
					t.Errorf("Incident(%v, %d) has the edge %d out of it", g, node, i)
				}
			}
			into, outOf = append(into, in), append(outOf, out)
		}
		expectOnce(t, len(g.Edges), into...)
		expectOnce(t, len(g.Edges), outOf...)
	})
}

package subgraph_test

import (
	"math/rand/v2"
	"slices"
	"testing"

	"scarfjoint/api"
	"scarfjoint/graph"
	"scarfjoint/morphism"
	"scarfjoint/subgraph"
)

// small visits the graphs with n nodes and m edges, for all ends of the edges; types tell all elements apart.
func small(n, m int, visit func(g api.Graph)) {
	g := build(count(1, n))
	var add func()
	add = func() {
		if len(g.Edges) == m {
			visit(build(slices.Clone(g.Nodes), slices.Clone(g.Edges)...))
			return
		}
		for i := range n * n {
			g.Edges = append(g.Edges, api.Edge{Type: 4 + len(g.Edges), From: i / n, To: i % n})
			add()
			g.Edges = g.Edges[:len(g.Edges)-1]
		}
	}
	add()
}

// smallGraphs visits the graphs with up to 3 nodes and up to 3 edges, or up to 2 nodes and 4 edges.
func smallGraphs(visit func(g api.Graph)) {
	for n := range 4 {
		for m := range 4 {
			small(n, m, visit)
		}
	}
	small(1, 4, visit)
	small(2, 4, visit)
}

// subset returns the numbers below n for which bits of a set are 1.
func subset(n, set int) []int {
	var l []int
	for i := range n {
		if set>>i&1 == 1 {
			l = append(l, i)
		}
	}
	return l
}

// subsets visits all lists of nodes with all lists of edges of a graph, ascending.
func subsets(g api.Graph, visit func(p api.Part)) {
	for nodes := range 1 << len(g.Nodes) {
		for edges := range 1 << len(g.Edges) {
			visit(part(subset(len(g.Nodes), nodes), subset(len(g.Edges), edges)...))
		}
	}
}

// isPart reports by the definition whether lists of elements, which are ascending, are a part.
func isPart(g api.Graph, p api.Part) bool {
	for _, i := range p.Edges {
		x := g.Edges[i]
		if !slices.Contains(p.Nodes, x.From) || !slices.Contains(p.Nodes, x.To) {
			return false
		}
	}
	return true
}

// isIn reports by the definition whether a part is contained in another one.
func isIn(p, q api.Part) bool {
	return !slices.ContainsFunc(p.Nodes, func(i int) bool { return !slices.Contains(q.Nodes, i) }) &&
		!slices.ContainsFunc(p.Edges, func(i int) bool { return !slices.Contains(q.Edges, i) })
}

// filter returns the part of a graph with the nodes and edges that fulfil conditions.
func filter(g api.Graph, isNode, isEdge func(i int) bool) api.Part {
	var p api.Part
	for i := range g.Nodes {
		if isNode(i) {
			p.Nodes = append(p.Nodes, i)
		}
	}
	for i := range g.Edges {
		if isEdge(i) {
			p.Edges = append(p.Edges, i)
		}
	}
	return p
}

// intersection returns what is in both of two lists.
func intersection(a, b []int) []int {
	return slices.DeleteFunc(slices.Clone(a), func(i int) bool { return !slices.Contains(b, i) })
}

// common returns the elements that are in both of two parts.
func common(p, q api.Part) api.Part {
	return part(intersection(p.Nodes, q.Nodes), intersection(p.Edges, q.Edges)...)
}

// isBefore reports whether All lists a part before another one.
func isBefore(p, q api.Part) bool {
	switch {
	case len(p.Nodes) != len(q.Nodes):
		return len(p.Nodes) < len(q.Nodes)
	case !slices.Equal(p.Nodes, q.Nodes):
		return slices.Compare(p.Nodes, q.Nodes) < 0
	case len(p.Edges) != len(q.Edges):
		return len(p.Edges) < len(q.Edges)
	}
	return slices.Compare(p.Edges, q.Edges) < 0
}

// all returns all parts of a small graph.
func all(t *testing.T, g api.Graph) []api.Part {
	t.Helper()
	l, e := subgraph.All(g)
	if e != api.OK {
		t.Errorf("All(%v) has the error %d", g, e)
	}
	return l
}

// closure returns the least part that contains some elements.
func closure(t *testing.T, g api.Graph, nodes, edges []int) api.Part {
	t.Helper()
	p, e := subgraph.Close(g, nodes, edges)
	if e != api.OK {
		t.Errorf("Close(%v, %v, %v) has the error %d", g, nodes, edges, e)
	}
	return p
}

// random returns a graph with random types and ends; with few edges it has many components.
func random(r *rand.Rand, maxNodes, maxEdges int) api.Graph {
	var g api.Graph
	for range r.IntN(maxNodes + 1) {
		g.Nodes = append(g.Nodes, r.IntN(3))
	}
	if len(g.Nodes) == 0 {
		return g
	}
	for range r.IntN(maxEdges + 1) {
		g.Edges = append(g.Edges, api.Edge{Type: r.IntN(3), From: r.IntN(len(g.Nodes)), To: r.IntN(len(g.Nodes))})
	}
	return g
}

// choose returns some of the numbers below n, in any order and also repeated.
func choose(r *rand.Rand, n int) []int {
	var l []int
	if n == 0 {
		return l
	}
	for range r.IntN(n + 3) {
		l = append(l, r.IntN(n))
	}
	return l
}

// randomPart returns a random part of a graph, which often has all elements of some components.
func randomPart(t *testing.T, r *rand.Rand, g api.Graph) api.Part {
	t.Helper()
	nodes, edges := choose(r, len(g.Nodes)), choose(r, len(g.Edges))
	l, _ := graph.Components(g)
	for _, c := range l {
		if r.IntN(3) == 0 {
			nodes, edges = append(nodes, c.Nodes...), append(edges, c.Edges...)
		}
	}
	switch r.IntN(4) {
	case 0:
		nodes = nil
	case 1:
		edges = nil
	}
	return closure(t, g, nodes, edges)
}

// larger visits random graphs with up to 40 nodes and 80 edges.
func larger(seed uint64, visit func(r *rand.Rand, g api.Graph)) {
	r := rand.New(rand.NewPCG(7, seed))
	for i := range 1500 {
		visit(r, random(r, 1+i%40, 1+i%80))
	}
}

// P7.1: Valid and All by the definitions, for all lists of elements of small graphs.
func TestDefinitions(t *testing.T) {
	smallGraphs(func(g api.Graph) {
		number := 0
		subsets(g, func(p api.Part) {
			is := isPart(g, p)
			if is {
				number++
			}
			if e := subgraph.Valid(g, p); is && e != api.OK || !is && e != api.ErrDangling {
				t.Errorf("Valid(%v, %v) = %d", g, p, e)
			}
		})
		if len(g.Nodes)+len(g.Edges) > 6 {
			return
		}
		l := all(t, g)
		if len(l) != number {
			t.Errorf("All(%v) has %d parts, not %d", g, len(l), number)
		}
		for i, p := range l {
			if !isPart(g, p) || i > 0 && !isBefore(l[i-1], p) {
				t.Errorf("All(%v): the part %d is %v", g, i, p)
			}
		}
	})
}

// P7.1 and P7.2: the least part that contains some elements is the intersection of all parts that contain them, for all elements of small graphs.
func TestLeast(t *testing.T) {
	smallGraphs(func(g api.Graph) {
		if len(g.Nodes)+len(g.Edges) > 6 {
			return
		}
		l := all(t, g)
		subsets(g, func(elements api.Part) {
			least := closure(t, g, elements.Nodes, elements.Edges)
			want := whole(g)
			for _, p := range l {
				if isIn(elements, p) {
					want = common(want, p)
				}
			}
			if !samePart(least, want) || !isPart(g, least) {
				t.Errorf("Close(%v, %v) = %v, want %v", g, elements, least, want)
			}
		})
	})
}

// P7.1 and P7.2: the same for random elements of larger graphs: what is given, the ends of its edges, and no more; every part that contains the elements contains it.
func TestLeastOfLarger(t *testing.T) {
	larger(1, func(r *rand.Rand, g api.Graph) {
		nodes, edges := choose(r, len(g.Nodes)), choose(r, len(g.Edges))
		least := closure(t, g, nodes, edges)
		isEnd := func(v int) bool {
			return slices.ContainsFunc(edges, func(i int) bool { return g.Edges[i].From == v || g.Edges[i].To == v })
		}
		want := filter(g, func(i int) bool { return slices.Contains(nodes, i) || isEnd(i) }, func(i int) bool { return slices.Contains(edges, i) })
		if !samePart(least, want) || subgraph.Valid(g, least) != api.OK {
			t.Errorf("Close(%v, %v, %v) = %v, want %v", g, nodes, edges, least, want)
		}
		p := randomPart(t, r, g)
		inside := common(part(nodes, edges...), p)
		if least := closure(t, g, inside.Nodes, inside.Edges); !isIn(least, p) {
			t.Errorf("Close of elements of the part %v of %v is %v", p, g, least)
		}
	})
}

// expectLattice expects that union and intersection of two parts are those of the definition, are parts, and absorb one another.
func expectLattice(t *testing.T, g api.Graph, p, q api.Part) {
	t.Helper()
	union := filter(g, func(i int) bool { return slices.Contains(p.Nodes, i) || slices.Contains(q.Nodes, i) },
		func(i int) bool { return slices.Contains(p.Edges, i) || slices.Contains(q.Edges, i) })
	u, e := subgraph.Join(g, p, q)
	expectPart(t, "Join", union, u, e)
	m, e := subgraph.Meet(g, p, q)
	expectPart(t, "Meet", common(p, q), m, e)
	if subgraph.Valid(g, u) != api.OK || subgraph.Valid(g, m) != api.OK {
		t.Errorf("the union or the intersection of the parts %v and %v of %v is no part: %v, %v", p, q, g, u, m)
	}
	again, e := subgraph.Meet(g, p, u)
	expectPart(t, "Meet of p with the union", p, again, e)
	again, e = subgraph.Join(g, p, m)
	expectPart(t, "Join of p with the intersection", p, again, e)
}

// P7.1 and P7.2: union and intersection, for all pairs of parts of small graphs, and random ones of larger graphs.
func TestLattice(t *testing.T) {
	for n := range 4 {
		for m := range 3 {
			small(n, m, func(g api.Graph) {
				l := all(t, g)
				for _, p := range l {
					for _, q := range l {
						expectLattice(t, g, p, q)
					}
				}
			})
		}
	}
	larger(2, func(r *rand.Rand, g api.Graph) {
		expectLattice(t, g, randomPart(t, r, g), randomPart(t, r, g))
	})
}

// expectInclusion expects that the inclusion of a part preserves the order of its elements, and that its image is the part.
func expectInclusion(t *testing.T, g api.Graph, p api.Part) {
	t.Helper()
	h, m, e := subgraph.Extract(g, p)
	if e != api.OK || morphism.Valid(h, g, m) != api.OK || !slices.IsSorted(m.Nodes) || !slices.IsSorted(m.Edges) {
		t.Errorf("Extract(%v, %v) = %v, %v, %d", g, p, h, m, e)
	}
	if !morphism.Injective(h, g, m) || len(h.Nodes) != len(p.Nodes) || len(h.Edges) != len(p.Edges) {
		t.Errorf("the part %v of %v has the graph %v", p, g, h)
	}
	image, e := subgraph.Image(h, g, m)
	expectPart(t, "the image of the inclusion", p, image, e)
	preimage, e := subgraph.Preimage(h, g, m, p)
	expectPart(t, "the preimage of the part", whole(h), preimage, e)
}

// P7.1 and P7.2: the graphs of all parts of small graphs, and of random ones of larger graphs.
func TestInclusions(t *testing.T) {
	smallGraphs(func(g api.Graph) {
		subsets(g, func(p api.Part) {
			if isPart(g, p) {
				expectInclusion(t, g, p)
			}
		})
	})
	larger(3, func(r *rand.Rand, g api.Graph) { expectInclusion(t, g, randomPart(t, r, g)) })
}

// expectBorder expects that the boundary is that of the definition, and that there is none exactly if each component is in the part or shares nothing with it.
func expectBorder(t *testing.T, g api.Graph, p api.Part) {
	t.Helper()
	border := filter(g, func(v int) bool {
		for i, x := range g.Edges {
			if (x.From == v || x.To == v) && !slices.Contains(p.Edges, i) {
				return slices.Contains(p.Nodes, v)
			}
		}
		return false
	}, func(int) bool { return false })
	expectBoundary(t, g, p, border.Nodes...)
	components, _ := graph.Components(g)
	isCut := slices.ContainsFunc(components, func(c api.Part) bool {
		return !samePart(common(c, p), api.Part{}) && !isIn(c, p)
	})
	if isCut != (len(border.Nodes) > 0) {
		t.Errorf("the part %v of %v has the boundary %v, the components are %v", p, g, border.Nodes, components)
	}
}

// P7.1 and P7.2: boundaries of all parts of small graphs, and of random ones of larger graphs.
func TestBoundaries(t *testing.T) {
	smallGraphs(func(g api.Graph) {
		subsets(g, func(p api.Part) {
			if isPart(g, p) {
				expectBorder(t, g, p)
			}
		})
	})
	larger(4, func(r *rand.Rand, g api.Graph) { expectBorder(t, g, randomPart(t, r, g)) })
}

// imageOf returns the image of a part: that of its inclusion and then the morphism.
func imageOf(t *testing.T, a, b api.Graph, m api.Morphism, p api.Part) api.Part {
	t.Helper()
	h, inclusion, _ := subgraph.Extract(a, p)
	both, e := morphism.Compose(h, a, b, inclusion, m)
	if e != api.OK {
		t.Errorf("the inclusion of the part %v of %v has the error %d", p, a, e)
	}
	image, e := subgraph.Image(h, b, both)
	want := filter(b, func(v int) bool { return slices.ContainsFunc(p.Nodes, func(i int) bool { return m.Nodes[i] == v }) },
		func(k int) bool { return slices.ContainsFunc(p.Edges, func(i int) bool { return m.Edges[i] == k }) })
	expectPart(t, "the image of a part", want, image, e)
	return image
}

// expectGalois expects that the preimage of a part q of b is that of the definition, that it and the image of a part p of a are parts, and that the image is contained in q exactly if p is in the preimage.
func expectGalois(t *testing.T, a, b api.Graph, m api.Morphism, p, q api.Part) {
	t.Helper()
	image := imageOf(t, a, b, m, p)
	preimage, e := subgraph.Preimage(a, b, m, q)
	want := filter(a, func(i int) bool { return slices.Contains(q.Nodes, m.Nodes[i]) }, func(i int) bool { return slices.Contains(q.Edges, m.Edges[i]) })
	expectPart(t, "the preimage of a part", want, preimage, e)
	if subgraph.Valid(b, image) != api.OK || subgraph.Valid(a, preimage) != api.OK {
		t.Errorf("%v or %v is no part", image, preimage)
	}
	if isIn(image, q) != isIn(p, preimage) {
		t.Errorf("%v from %v to %v: the image of %v is %v, the preimage of %v is %v", m, a, b, p, image, q, preimage)
	}
}

// pool returns small graphs between which there are morphisms of all kinds.
func pool() []api.Graph {
	return []api.Graph{
		{},
		alike(2, 0),
		alike(1, 1),
		alike(1, 2),
		path(),
		build([]int{0, 0}, api.Edge{To: 1}, api.Edge{To: 1}),
		build([]int{0, 0}, api.Edge{To: 1}, api.Edge{From: 1}),
		build([]int{0, 0}, api.Edge{To: 1}, api.Edge{From: 1, To: 1}),
		build([]int{0, 1}, api.Edge{}),
		build([]int{0, 1, 0}, api.Edge{From: 2, To: 2}, api.Edge{To: 2}),
	}
}

// P7.1 and P7.2: images and preimages of all parts under all morphisms between some small graphs.
func TestImages(t *testing.T) {
	for _, a := range pool() {
		for _, b := range pool() {
			l, _ := morphism.All(a, b)
			for _, m := range l {
				for _, p := range all(t, a) {
					for _, q := range all(t, b) {
						expectGalois(t, a, b, m, p, q)
					}
				}
			}
		}
	}
}

// unfold returns a graph with a random morphism to another one.
func unfold(r *rand.Rand, b api.Graph) (api.Graph, api.Morphism) {
	var a api.Graph
	var m api.Morphism
	if len(b.Nodes) == 0 {
		return a, m
	}
	over := make([][]int, len(b.Nodes))
	for i := range 1 + r.IntN(40) {
		v := r.IntN(len(b.Nodes))
		a.Nodes, m.Nodes, over[v] = append(a.Nodes, b.Nodes[v]), append(m.Nodes, v), append(over[v], i)
	}
	for range min(len(b.Edges), 1) * r.IntN(81) {
		k := r.IntN(len(b.Edges))
		x := b.Edges[k]
		if from, to := over[x.From], over[x.To]; len(from) > 0 && len(to) > 0 {
			a.Edges = append(a.Edges, api.Edge{Type: x.Type, From: from[r.IntN(len(from))], To: to[r.IntN(len(to))]})
			m.Edges = append(m.Edges, k)
		}
	}
	return a, m
}

// P7.1 and P7.2: images and preimages of random parts under random morphisms between larger graphs; a part is in the preimage of its image.
func TestImagesOfLarger(t *testing.T) {
	larger(5, func(r *rand.Rand, b api.Graph) {
		a, m := unfold(r, b)
		p, q := randomPart(t, r, a), randomPart(t, r, b)
		expectGalois(t, a, b, m, p, q)
		expectGalois(t, a, b, m, p, imageOf(t, a, b, m, p))
		preimage, _ := subgraph.Preimage(a, b, m, q)
		expectGalois(t, a, b, m, preimage, q)
		image, e := subgraph.Image(a, b, m)
		expectPart(t, "the image of the morphism", imageOf(t, a, b, m, whole(a)), image, e)
	})
}

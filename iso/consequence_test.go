package iso_test

import (
	"math/rand/v2"
	"slices"
	"testing"

	"scarfjoint/api"
	"scarfjoint/graph"
	"scarfjoint/iso"
	"scarfjoint/morphism"
	"scarfjoint/partition"
)

// choose visits the lists of up to n of some edges, in which each can occur several times.
func choose(edges []api.Edge, n int, visit func(l []api.Edge)) {
	var add func(l, rest []api.Edge)
	add = func(l, rest []api.Edge) {
		visit(slices.Clone(l))
		if len(l) == n {
			return
		}
		for i, x := range rest {
			add(append(slices.Clip(l), x), rest[i:])
		}
	}
	add(nil, edges)
}

// small returns the graphs with some nodes and up to n edges of some types; their edges are in one order.
func small(nodes []int, types, n int) []api.Graph {
	var edges []api.Edge
	for kind := range types {
		for from := range nodes {
			for to := range nodes {
				edges = append(edges, api.Edge{Type: kind, From: from, To: to})
			}
		}
	}
	var l []api.Graph
	choose(edges, n, func(chosen []api.Edge) { l = append(l, build(nodes, chosen...)) })
	return l
}

// random returns a graph with n nodes and up to m edges, with some types of nodes and of edges.
func random(r *rand.Rand, n, m, nodeTypes, edgeTypes int) api.Graph {
	var g api.Graph
	for range n {
		g.Nodes = append(g.Nodes, r.IntN(nodeTypes))
	}
	if n == 0 {
		return g
	}
	for range r.IntN(m + 1) {
		g.Edges = append(g.Edges, api.Edge{Type: r.IntN(edgeTypes), From: r.IntN(n), To: r.IntN(n)})
	}
	return g
}

// shuffle returns a graph in a random order.
func shuffle(r *rand.Rand, g api.Graph) api.Graph {
	h, _ := graph.Reorder(g, to(r.Perm(len(g.Nodes)), r.Perm(len(g.Edges))...))
	return h
}

// injections visits the lists of n different numbers below a bound of which fits allows each one at its place, in order.
func injections(n, bound int, fits func(place, x int) bool, visit func(l []int)) {
	var l []int
	var add func()
	add = func() {
		if len(l) == n {
			visit(slices.Clone(l))
			return
		}
		for x := range bound {
			if !slices.Contains(l, x) && fits(len(l), x) {
				l = append(l, x)
				add()
				l = l[:len(l)-1]
			}
		}
	}
	add()
}

// tryAll returns all isomorphisms by the definition, in order.
func tryAll(a, b api.Graph) []api.Morphism {
	var all []api.Morphism
	if len(a.Nodes) != len(b.Nodes) || len(a.Edges) != len(b.Edges) {
		return nil
	}
	sameType := func(i, v int) bool { return a.Nodes[i] == b.Nodes[v] }
	injections(len(a.Nodes), len(b.Nodes), sameType, func(nodes []int) {
		sameEdge := func(i, k int) bool {
			x, y := a.Edges[i], b.Edges[k]
			return x.Type == y.Type && nodes[x.From] == y.From && nodes[x.To] == y.To
		}
		injections(len(a.Edges), len(b.Edges), sameEdge, func(edges []int) { all = append(all, to(nodes, edges...)) })
	})
	return all
}

// signsIn returns the signs and the colours of the nodes of graphs together in a round, by the definition.
func signsIn(round int, graphs ...api.Graph) (signs [][]int, colours []int) {
	if round == 0 {
		for _, g := range graphs {
			for _, kind := range g.Nodes {
				signs = append(signs, []int{kind})
			}
		}
		return signs, less(signs)
	}
	_, before := signsIn(round-1, graphs...)
	for _, g := range graphs {
		own := before[len(signs):]
		for i := range g.Nodes {
			signs = append(signs, signOf(g, i, own))
		}
	}
	return signs, less(signs)
}

// signOf returns the sign of a node in the round after one with some colours.
func signOf(g api.Graph, node int, colours []int) []int {
	var triples [][]int
	for _, x := range g.Edges {
		if x.From == node {
			triples = append(triples, []int{0, x.Type, colours[x.To]})
		}
		if x.To == node {
			triples = append(triples, []int{1, x.Type, colours[x.From]})
		}
	}
	slices.SortFunc(triples, slices.Compare)
	return slices.Concat([]int{colours[node]}, slices.Concat(triples...))
}

// less returns for each sign how many different ones are less.
func less(signs [][]int) []int {
	var different [][]int
	for _, sign := range signs {
		if !slices.ContainsFunc(different, func(s []int) bool { return slices.Equal(s, sign) }) {
			different = append(different, sign)
		}
	}
	colours := make([]int, len(signs))
	for i, sign := range signs {
		for _, s := range different {
			if slices.Compare(s, sign) < 0 {
				colours[i]++
			}
		}
	}
	return colours
}

// number returns how many different colours there are.
func number(colours []int) int {
	return len(slices.Compact(slices.Sorted(slices.Values(colours))))
}

// colouring returns the colouring of a graph by the definition.
func colouring(g api.Graph) []int {
	for round := 0; ; round++ {
		_, colours := signsIn(round, g)
		if _, next := signsIn(round+1, g); number(next) == number(colours) {
			return colours
		}
	}
}

// has returns how many of the signs of a first and of a second graph with n and with other nodes are equal to one.
func has(signs [][]int, n int, sign []int) (first, second int) {
	for i, s := range signs {
		if slices.Equal(s, sign) && i < n {
			first++
		} else if slices.Equal(s, sign) {
			second++
		}
	}
	return first, second
}

// reason returns the standard reason by the definition, for graphs that have one in a round before the last one if they have any.
func reason(a, b api.Graph, last int) (api.Differ, bool) {
	for round := range last {
		signs, _ := signsIn(round, a, b)
		all := slices.Clone(signs)
		slices.SortFunc(all, slices.Compare)
		for _, sign := range all {
			if first, second := has(signs, len(a.Nodes), sign); first != second {
				return api.Differ{Round: round, Colour: sign, First: first, Second: second}, true
			}
		}
	}
	return api.Differ{}, false
}

// orbits returns the orbits of a graph by the definition.
func orbits(g api.Graph) []int {
	l := count(0, len(g.Nodes))
	for _, m := range tryAll(g, g) {
		for i, image := range m.Nodes {
			l[image] = min(l[image], i)
		}
	}
	return l
}

// expectDefined expects of two graphs what the definitions say.
func expectDefined(t *testing.T, a, b api.Graph) {
	t.Helper()
	expectAll(t, a, b, tryAll(a, b)...)
	if d, ok := reason(a, b, len(a.Nodes)+2); ok {
		expectReason(t, a, b, d)
	} else {
		expectNoReason(t, a, b)
	}
}

// expectOfOne expects of a graph what the definitions say, and that nodes in one orbit have one colour.
func expectOfOne(t *testing.T, g api.Graph) {
	t.Helper()
	colours, classes := colouring(g), orbits(g)
	expectColours(t, g, colours...)
	expectOrbits(t, g, classes...)
	if !partition.Valid(classes) {
		t.Errorf("the orbits %v of %v are no partition", classes, g)
	}
	for i, least := range classes {
		if colours[i] != colours[least] {
			t.Errorf("the nodes %d and %d of %v have the colours %v", i, least, g, colours)
		}
	}
}

// P8.1 and P8.2: all functions by the definitions, for all pairs of small graphs with one type, and of smaller ones with two types.
func TestDefinitions(t *testing.T) {
	alike := slices.Concat(small(nil, 1, 2), small([]int{0}, 1, 3), small([]int{0, 0}, 1, 3), small([]int{0, 0, 0}, 1, 3))
	typed := slices.Concat(small(nil, 2, 2), small([]int{0}, 2, 3), small([]int{1}, 2, 3))
	for _, nodes := range [][]int{{0, 0}, {0, 1}, {1, 0}, {1, 1}} {
		typed = append(typed, small(nodes, 2, 2)...)
	}
	for _, l := range [][]api.Graph{alike, typed} {
		for _, a := range l {
			expectOfOne(t, a)
			for _, b := range l {
				expectDefined(t, a, b)
			}
		}
	}
}

// P8.1 and P8.2: the same for random graphs with up to 6 nodes, and the same ones in another order or with one edge moved.
func TestDefinitionsOfRandom(t *testing.T) {
	r := rand.New(rand.NewPCG(8, 1))
	for i := range 1500 {
		a := random(r, r.IntN(7), 6, 1+i%3, 1+i%2)
		b := shuffle(r, a)
		expectOfOne(t, a)
		expectDefined(t, a, b)
		if len(b.Edges) > 0 {
			b.Edges[0].To = r.IntN(len(b.Nodes))
			expectDefined(t, a, b)
		}
	}
}

// P8.1: CheckReason by the definition: signs of all rounds with right and with wrong numbers.
func TestReasonsOfRandom(t *testing.T) {
	r := rand.New(rand.NewPCG(8, 2))
	right := 0
	for i := range 100 {
		a := random(r, r.IntN(5), 5, 1+i%2, 1+i%2)
		b := shuffle(r, a)
		if i%3 > 0 && len(b.Edges) > 0 {
			b.Edges[0].From = r.IntN(len(b.Nodes))
		}
		for round := range 7 {
			signs, _ := signsIn(round, a, b)
			other, _ := signsIn(round+1, a, b)
			for _, sign := range append(slices.Concat(signs, other), nil, []int{0}, []int{0, 0, 0, 1}) {
				first, second := has(signs, len(a.Nodes), sign)
				right += tryNumbers(t, a, b, api.Differ{Round: round, Colour: sign, First: first, Second: second})
			}
		}
	}
	if right < 100 {
		t.Errorf("only %d reasons are right", right)
	}
}

// P8.1: CheckReason by the definition for large graphs, which have up to 80 colours together.
func TestReasonsOfLarge(t *testing.T) {
	r := rand.New(rand.NewPCG(8, 7))
	for i := range 20 {
		a, b := random(r, 40, 80, 100, 100), random(r, 40, 80, 100, 1+i)
		for round := range 4 {
			signs, colours := signsIn(round, a, b)
			if round == 3 && number(colours) <= 60 {
				t.Errorf("there are only %d colours", number(colours))
			}
			for _, sign := range signs {
				first, second := has(signs, len(a.Nodes), sign)
				for _, d := range []api.Differ{{First: first, Second: second}, {First: second, Second: first}, {First: first + 1, Second: second}} {
					d.Round, d.Colour = round, sign
					want := first != second && d.First == first && d.Second == second
					if iso.CheckReason(a, b, d) != want {
						t.Errorf("CheckReason(%v, %v, %v) = %v", a, b, d, !want)
					}
				}
			}
		}
	}
}

// tryNumbers expects that a reason with right numbers is right if they differ, and that others with its round and colour are wrong. It returns how many are right.
func tryNumbers(t *testing.T, a, b api.Graph, d api.Differ) int {
	t.Helper()
	right := 0
	for first := -1; first <= len(a.Nodes)+1; first++ {
		for second := -1; second <= len(b.Nodes)+1; second++ {
			x := api.Differ{Round: d.Round, Colour: d.Colour, First: first, Second: second}
			want := first == d.First && second == d.Second && first != second
			if want {
				right++
			}
			if iso.CheckReason(a, b, x) != want {
				t.Errorf("CheckReason(%v, %v, %v) = %v", a, b, x, !want)
			}
		}
	}
	return right
}

// expectPreserved expects what P8.2 says of an isomorphism: it preserves colours, its inverse is one, and the graphs have no right reason.
func expectPreserved(t *testing.T, a, b api.Graph, m api.Morphism) {
	t.Helper()
	if !morphism.Injective(a, b, m) || !morphism.Surjective(a, b, m) {
		t.Errorf("%v is no isomorphism from %v to %v", m, a, b)
		return
	}
	colours, e := iso.Refine(a)
	others, f := iso.Refine(b)
	if e != api.OK || f != api.OK {
		t.Errorf("Refine: %d, %d", e, f)
	}
	for i, image := range m.Nodes {
		if colours[i] != others[image] {
			t.Errorf("the isomorphism %v takes the colours %v to %v", m, colours, others)
		}
	}
	inverse, _ := morphism.Inverse(a, b, m)
	if l, e := iso.All(b, a); e == api.OK && !slices.ContainsFunc(l, func(x api.Morphism) bool { return sameMap(x, inverse) }) {
		t.Errorf("All(%v, %v) = %v is without %v", b, a, l, inverse)
	}
	if _, e := iso.Find(b, a); e != api.OK {
		t.Errorf("Find(%v, %v) has the error %d", b, a, e)
	}
	expectNoReason(t, a, b)
}

// expectNoneRight expects that no sign of some rounds is a right reason, whatever the numbers.
func expectNoneRight(t *testing.T, a, b api.Graph, rounds ...int) {
	t.Helper()
	for _, round := range rounds {
		signs, _ := signsIn(round, a, b)
		for _, sign := range signs {
			first, second := has(signs, len(a.Nodes), sign)
			if first != second {
				t.Errorf("%d and %d nodes of isomorphic graphs have the sign %v", first, second, sign)
			}
			if tryNumbers(t, a, b, api.Differ{Round: round, Colour: sign, First: first, Second: second}) > 0 {
				t.Errorf("isomorphic graphs have a right reason: %d, %v", round, sign)
			}
		}
	}
}

// P8.2: for random graphs up to 40 nodes and 80 edges, and the same ones in another order.
func TestOrders(t *testing.T) {
	r := rand.New(rand.NewPCG(8, 3))
	listed := 0
	for i := range 400 {
		a := random(r, r.IntN(41), 1+i%80, 1+i%4, 1+i%5)
		b := shuffle(r, a)
		m, e := iso.Find(a, b)
		if e != api.OK {
			t.Errorf("Find(%v, %v) has the error %d", a, b, e)
			continue
		}
		expectPreserved(t, a, b, m)
		all, e := iso.All(a, b)
		own, f := iso.All(a, a)
		if len(all) != len(own) || e != f {
			t.Errorf("%d isomorphisms, %d, and %d automorphisms, %d, of %v", len(all), e, len(own), f, a)
		}
		if e == api.OK {
			listed++
			expectListed(t, a, b, m, all)
		}
		if len(a.Nodes) < 6 {
			expectNoneRight(t, a, b, 0, 1, 3)
		}
	}
	if listed < 100 {
		t.Errorf("only %d lists of isomorphisms", listed)
	}
}

// expectListed expects that a list has isomorphisms, ascending, and that the first one is the one that was found.
func expectListed(t *testing.T, a, b api.Graph, first api.Morphism, l []api.Morphism) {
	t.Helper()
	if len(l) == 0 || !sameMap(l[0], first) {
		t.Errorf("All(%v, %v) does not begin with %v", a, b, first)
	}
	for i, m := range l {
		if !morphism.Injective(a, b, m) || !morphism.Surjective(a, b, m) {
			t.Errorf("%v is no isomorphism from %v to %v", m, a, b)
		}
		if i > 0 && !isBefore(l[i-1], m) {
			t.Errorf("%v and %v are not in order", l[i-1], m)
		}
	}
}

// isBefore reports whether a morphism is less than another one, by nodes, then by edges.
func isBefore(m, n api.Morphism) bool {
	if !slices.Equal(m.Nodes, n.Nodes) {
		return slices.Compare(m.Nodes, n.Nodes) < 0
	}
	return slices.Compare(m.Edges, n.Edges) < 0
}

// P8.2: isomorphisms that are changed by automorphisms of one graph are the same ones, as a list of All.
func TestGroups(t *testing.T) {
	r := rand.New(rand.NewPCG(8, 4))
	for i := range 100 {
		a := random(r, 1+r.IntN(8), 1+i%6, 1+i%2, 1)
		b := shuffle(r, a)
		all, e := iso.All(a, b)
		own, _ := iso.All(a, a)
		if e != api.OK {
			continue
		}
		for _, m := range own {
			var moved []api.Morphism
			for _, n := range all {
				both, _ := morphism.Compose(a, a, b, m, n)
				moved = append(moved, both)
			}
			slices.SortFunc(moved, func(m, n api.Morphism) int {
				if isBefore(m, n) {
					return -1
				}
				return 1
			})
			if !slices.EqualFunc(moved, all, sameMap) {
				t.Errorf("All(%v, %v) after %v is another list", a, b, m)
			}
		}
	}
}

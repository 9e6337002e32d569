package iso_test

import (
	"math/bits"
	"math/rand/v2"
	"slices"
	"testing"

	"scarfjoint/api"
	"scarfjoint/graph"
	"scarfjoint/iso"
)

// cycle returns the pairs of n nodes that follow one another in a circle, from a first one on.
func cycle(first, n int) [][2]int {
	var l [][2]int
	for i := range n {
		l = append(l, [2]int{first + i, first + (i+1)%n})
	}
	return l
}

// clique returns the pairs of n nodes, from a first one on.
func clique(first, n int) [][2]int {
	var l [][2]int
	for i := range n {
		for k := range i {
			l = append(l, [2]int{first + k, first + i})
		}
	}
	return l
}

// cycles returns the pairs of circles of some lengths, one after the other.
func cycles(lengths ...int) [][2]int {
	var l [][2]int
	first := 0
	for _, n := range lengths {
		l = append(l, cycle(first, n)...)
		first += n
	}
	return l
}

// jumps returns the pairs of a circle of n nodes, and of those between each node and the one that is some steps farther, by a list that is repeated.
func jumps(n int, steps ...int) [][2]int {
	l := cycle(0, n)
	for i := range n {
		if k := (i + steps[i%len(steps)] + n) % n; i < k {
			l = append(l, [2]int{i, k})
		}
	}
	return l
}

// cube returns the pairs of a cube of some dimensions, from nodes with an even number of ones to nodes with an odd one.
func cube(dimensions int) [][2]int {
	var l [][2]int
	for v := range 1 << dimensions {
		for i := range dimensions {
			if bits.OnesCount(uint(v))%2 == 0 {
				l = append(l, [2]int{v, v ^ 1<<i})
			}
		}
	}
	return l
}

// incidence returns n nodes and then one more for each set of them, with the pairs of elements and sets.
func incidence(n int, sets ...[]int) api.Graph {
	var l [][2]int
	for i, set := range sets {
		for _, x := range set {
			l = append(l, [2]int{x, n + i})
		}
	}
	return directed(n+len(sets), l...)
}

// turned returns n sets: each of them has some numbers, plus 0 to n - 1, modulo n.
func turned(n int, numbers ...int) [][]int {
	var l [][]int
	for i := range n {
		var set []int
		for _, x := range numbers {
			set = append(set, (x+i)%n)
		}
		l = append(l, set)
	}
	return l
}

// expectNumber expects a number of automorphisms (-1: too many), as many isomorphisms to the graph in another order, and no reason.
func expectNumber(t *testing.T, about string, g api.Graph, want int) {
	t.Helper()
	r := rand.New(rand.NewPCG(8, 5))
	for _, h := range []api.Graph{g, shuffle(r, g), shuffle(r, g)} {
		m, e := iso.Find(g, h)
		if e != api.OK {
			t.Errorf("%s: Find has the error %d", about, e)
		}
		expectNoReason(t, g, h)
		l, e := iso.All(g, h)
		if want < 0 {
			expectError(t, about, api.ErrTooLarge, e, l)
			expectListed(t, g, h, m, []api.Morphism{m})
			continue
		}
		if len(l) != want || e != api.OK {
			t.Errorf("%s: %d isomorphisms, %d, want %d", about, len(l), e, want)
		}
		expectListed(t, g, h, m, l)
	}
}

// expectNone expects that there is no isomorphism, in either direction, although colours cannot tell the graphs apart.
func expectNone(t *testing.T, about string, a, b api.Graph) {
	t.Helper()
	if e := graph.Valid(a); e != api.OK || graph.Valid(b) != api.OK {
		t.Errorf("%s: the graphs have errors", about)
	}
	expectAll(t, a, b)
	expectAll(t, b, a)
	expectNoReason(t, a, b)
	expectNoReason(t, b, a)
}

// P8.1: All: 2000 isomorphisms are not too many, and a few more are, be they made by nodes or by edges.
func TestLimit(t *testing.T) {
	wheels := func(lengths ...int) api.Graph {
		g := directed(0)
		for kind, n := range lengths {
			for _, p := range cycle(len(g.Nodes), n) {
				g.Edges = append(g.Edges, api.Edge{Type: kind, From: p[0], To: p[1]})
			}
			g.Nodes = append(g.Nodes, make([]int, n)...)
		}
		return g
	}
	loops := func(numbers ...int) api.Graph {
		g := directed(1)
		for kind, n := range numbers {
			g.Edges = append(g.Edges, slices.Repeat([]api.Edge{{Type: kind}}, n)...)
		}
		return g
	}
	expectNumber(t, "5^3 * 4^2 by nodes", wheels(5, 5, 5, 4, 4), 2000)
	expectNumber(t, "7 * 11 * 13 * 2 by nodes", wheels(7, 11, 13, 2), -1)
	expectNumber(t, "20 * 5 * 4 * 5 by nodes", wheels(20, 5, 4, 5), 2000)
	expectNumber(t, "5! * 2^4 by edges", loops(5, 2, 2, 2, 2), 1920)
	expectNumber(t, "4!^2 * 2^2 by edges", loops(4, 4, 2), 1152)
	expectNumber(t, "6! * 3 by edges and nodes", directed(4, append(slices.Repeat(cycle(0, 1), 6), cycle(1, 3)...)...), -1)
	expectNumber(t, "6! * 2 by edges and nodes", directed(3, append(slices.Repeat(cycle(0, 1), 6), cycle(1, 2)...)...), 1440)
	expectNumber(t, "7! by edges", loops(7), -1)
	expectNumber(t, "80! by edges", loops(80), -1)
	expectNumber(t, "5! by edges of a cycle", directed(4, slices.Concat(cycle(0, 4), slices.Repeat(cycle(0, 4)[:1], 4))...), 120)
	expectNumber(t, "6! by nodes", directed(6), 720)
	expectNumber(t, "7! by nodes", directed(7), -1)
	expectNumber(t, "40! by nodes", directed(40), -1)
	expectNumber(t, "40! * 2^40", directed(40, slices.Repeat(cycles(slices.Repeat([]int{1}, 40)...), 2)...), -1)
	// Where there is no isomorphism, there are not too many.
	expectAll(t, directed(40), directed(39))
	expectAll(t, loops(80), loops(79))
	expectAll(t, directed(40), directed(40, [2]int{0, 0}))
}

// P8.1 and P8.2: how many automorphisms there are is known of symmetric graphs.
func TestNumbers(t *testing.T) {
	expectNumber(t, "a cycle of 40 nodes", directed(40, cycle(0, 40)...), 40)
	expectNumber(t, "a cycle of 40 nodes, in both directions", mutual(40, cycle(0, 40)...), 80)
	expectNumber(t, "a path of 40 nodes", directed(40, cycle(0, 40)[:39]...), 1)
	expectNumber(t, "a path of 40 nodes, in both directions", mutual(40, cycle(0, 40)[:39]...), 2)
	expectNumber(t, "cycles of many lengths", directed(36, cycles(1, 2, 3, 4, 5, 6, 7, 8)...), -1)
	expectNumber(t, "cycles of three lengths", directed(28, cycles(3, 8, 17)...), 408)
	expectNumber(t, "13 triangles", mutual(40, cycles(slices.Repeat([]int{3}, 13)...)...), -1)
	expectNumber(t, "20 pairs", mutual(40, cycles(slices.Repeat([]int{2}, 20)...)...), -1)
	expectNumber(t, "a clique of 6 nodes", mutual(6, clique(0, 6)...), 720)
	expectNumber(t, "an ordered clique of 13 nodes", directed(13, clique(0, 13)...), 1)
	expectNumber(t, "6 cliques of 4 nodes", mutual(24, slices.Concat(clique(0, 4), clique(4, 4), clique(8, 4), clique(12, 4), clique(16, 4), clique(20, 4))...), -1)
	expectNumber(t, "a star", mutual(40, starOf(39)...), -1)
	expectNumber(t, "a directed cube of 3 dimensions", directed(8, cube(3)...), 24)
	expectNumber(t, "a cube of 3 dimensions", mutual(8, cube(3)...), 48)
	expectNumber(t, "a cube of 4 dimensions", mutual(16, cube(4)...), 384)
	expectNumber(t, "a directed cube of 5 dimensions", directed(32, cube(5)...), 1920)
	expectNumber(t, "Heawood's graph", mutual(14, jumps(14, 5, -5)...), 336)
	expectNumber(t, "Moebius's and Kantor's graph", mutual(16, jumps(16, 5, -5)...), 96)
	expectNumber(t, "Pappus's graph", mutual(18, jumps(18, 5, 7, -7, 7, -7, -5)...), 216)
	expectNumber(t, "Desargues's graph", mutual(20, jumps(20, 5, -5, 9, -9)...), 240)
	expectNumber(t, "the dodecahedron", mutual(20, jumps(20, 10, 7, 4, -4, -7, 10, -4, 7, -7, 4)...), 120)
	expectNumber(t, "Nauru's graph", mutual(24, jumps(24, 5, -9, 7, -7, 9, -5)...), 144)
	expectNumber(t, "McGee's graph", mutual(24, jumps(24, 12, 7, -7)...), 32)
	expectNumber(t, "Frucht's graph", mutual(12, jumps(12, -5, -2, -4, 2, 5, -2, 2, 5, -2, -5, 4, 2)...), 1)
	expectNumber(t, "Tutte's and Coxeter's graph, with directions", directed(30, fromEven(jumps(30, -13, -9, 7, -7, 9, 13))...), 720)
	expectNumber(t, "the plane of 7 points", incidence(7, turned(7, 0, 1, 3)...), 168)
	expectNumber(t, "the plane of 13 points", incidence(13, turned(13, 0, 1, 3, 9)...), -1)
	expectNumber(t, "triples of 13 points", incidence(13, append(turned(13, 0, 1, 4), turned(13, 0, 2, 7)...)...), 39)
}

// starOf returns the pairs of a node and n others.
func starOf(n int) [][2]int {
	var l [][2]int
	for i := range n {
		l = append(l, [2]int{0, i + 1})
	}
	return l
}

// fromEven returns pairs of an even and an odd number with the even one first.
func fromEven(pairs [][2]int) [][2]int {
	l := slices.Clone(pairs)
	for i, p := range l {
		if p[0]%2 == 1 {
			l[i] = [2]int{p[1], p[0]}
		}
	}
	return l
}

// gadgets returns the graph of Cai, Fuerer and Immerman over the clique of 4 nodes, with a turned edge or without. Each node of the clique becomes 4 nodes, for the sets of an even number of its 3 edges, and 2 for each of its edges: they say whether the edge is in the set.
func gadgets(isTurned bool) api.Graph {
	var l [][2]int
	end := func(from, to, bit int) int { return 16 + 6*from + 2*((to-from+4)%4-1) + bit }
	for v := range 4 {
		for i, set := range []int{0, 3, 5, 6} {
			for k := range 3 {
				l = append(l, [2]int{4*v + i, end(v, (v+1+k)%4, set>>k&1)})
			}
		}
		for w := range v {
			for bit := range 2 {
				turn := 0
				if isTurned && v == 1 {
					turn = 1
				}
				l = append(l, [2]int{end(w, v, bit), end(v, w, bit^turn)})
			}
		}
	}
	return directed(40, l...)
}

// exchanged returns sets of three in which some {a, b, c}, {a, d, e}, {f, b, d}, {f, c, e} became {f, b, c}, {f, d, e}, {a, b, d}, {a, c, e}: the same pairs are together.
func exchanged(sets [][]int) [][]int {
	has := func(l ...int) int {
		slices.Sort(l)
		return slices.IndexFunc(sets, func(set []int) bool { return slices.Equal(slices.Sorted(slices.Values(set)), l) })
	}
	var l [][]int
	injections(6, 13, func(int, int) bool { return l == nil }, func(x []int) {
		a, b, c, d, e, f := x[0], x[1], x[2], x[3], x[4], x[5]
		first, second, third, fourth := has(a, b, c), has(a, d, e), has(f, b, d), has(f, c, e)
		if l == nil && first >= 0 && second >= 0 && third >= 0 && fourth >= 0 {
			l = slices.Clone(sets)
			l[first], l[second], l[third], l[fourth] = []int{f, b, c}, []int{f, d, e}, []int{a, b, d}, []int{a, c, e}
		}
	})
	return l
}

// regular returns a graph of 40 nodes of which each has as many edges into it as out of it.
func regular(r *rand.Rand, degree int) api.Graph {
	g := directed(40)
	for range degree {
		for from, to := range r.Perm(40) {
			g.Edges = append(g.Edges, api.Edge{From: from, To: to})
		}
	}
	return g
}

// P1 and P8.1: Find and All end soon where there is no isomorphism, also if there are many of most parts of the graphs.
func TestNone(t *testing.T) {
	triangles := slices.Repeat([]int{3}, 11)
	expectNone(t, "cycles of 6, and of 3 nodes", directed(39, cycles(append(triangles, 6)...)...), directed(39, cycles(append(triangles, 3, 3)...)...))
	expectNone(t, "cycles of 7, and of 4 and 3 nodes", mutual(40, cycles(append(triangles, 7)...)...), mutual(40, cycles(append(triangles, 4, 3)...)...))
	expectNone(t, "cycles of 7, before others", mutual(40, cycles(append([]int{7}, triangles...)...)...), mutual(40, cycles(append([]int{4, 3}, triangles...)...)...))
	expectNone(t, "loops and cycles", directed(40, cycles(append(slices.Repeat([]int{1}, 38), 2)...)...), directed(40, cycles(slices.Repeat([]int{1}, 40)...)...))
	expectNone(t, "a cycle and two halves", mutual(40, cycle(0, 40)...), mutual(40, cycles(20, 20)...))
	expectNone(t, "Desargues's graph and the dodecahedron", mutual(20, jumps(20, 5, -5, 9, -9)...), mutual(20, jumps(20, 10, 7, 4, -4, -7, 10, -4, 7, -7, 4)...))
	expectNone(t, "Nauru's and McGee's graph", mutual(24, jumps(24, 5, -9, 7, -7, 9, -5)...), mutual(24, jumps(24, 12, 7, -7)...))
	expectNone(t, "gadgets, with a turned edge", gadgets(false), gadgets(true))
	triples := append(turned(13, 0, 1, 4), turned(13, 0, 2, 7)...)
	others := incidence(13, exchanged(triples)...)
	expectNone(t, "triples of 13 points", incidence(13, triples...), others)
	expectNumber(t, "other triples of 13 points", others, 6)
	r := rand.New(rand.NewPCG(8, 6))
	for range 15 {
		expectNone(t, "graphs of which the nodes have two edges", regular(r, 2), regular(r, 2))
	}
}

// signals returns two paths of k nodes, of which the one begins with another type, and a circle of 6 nodes to which they lead.
func signals(k int, leads ...int) api.Graph {
	pairs := cycle(2*k, 6)
	for i := range k - 1 {
		pairs = append(pairs, [2]int{i, i + 1}, [2]int{k + i, k + i + 1})
	}
	for i, lead := range leads {
		pairs = append(pairs, [2]int{lead*k + k - 1, 2*k + i})
	}
	g := directed(2*k+6, pairs...)
	g.Nodes[k] = 1
	return g
}

// P8.1: Reason: graphs that are told apart late, by what is far from where they differ.
func TestLateReasons(t *testing.T) {
	for _, k := range []int{1, 2, 5, 17} {
		a, b := signals(k, 0, 1, 0, 1, 0, 1), signals(k, 0, 0, 0, 1, 1, 1)
		want, ok := reason(a, b, 41)
		if !ok || want.Round != k+1 {
			t.Errorf("the paths of %d nodes have the reason %v", k, want)
		}
		expectReason(t, a, b, want)
		expectAll(t, a, b)
		for _, round := range []int{0, k, k + 1, k + 2, 40, 41} {
			expectRound(t, a, b, round, k < round && round < 41)
		}
	}
}

// expectRound expects whether graphs have right reasons of a round.
func expectRound(t *testing.T, a, b api.Graph, round int, want bool) {
	t.Helper()
	signs, _ := signsIn(round, a, b)
	right := 0
	for _, sign := range signs {
		first, second := has(signs, len(a.Nodes), sign)
		if iso.CheckReason(a, b, api.Differ{Round: round, Colour: sign, First: first, Second: second}) {
			right++
		}
	}
	if (right > 0) != want {
		t.Errorf("%d reasons of round %d are right", right, round)
	}
}

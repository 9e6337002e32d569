package morphism_test

import (
	"slices"
	"testing"

	"scarfjoint/api"
	"scarfjoint/morphism"
)

// clique returns the pairs of n nodes, from a first one on.
func clique(first, n int) [][2]int {
	var l [][2]int
	for i := range n {
		for k := range i {
			l = append(l, [2]int{first + k, first + i})
		}
	}
	return l
}

// cycle returns the pairs of n nodes that follow one another in a circle, from a first one on.
func cycle(first, n int) [][2]int {
	var l [][2]int
	for i := range n {
		l = append(l, [2]int{first + i, first + (i+1)%n})
	}
	return l
}

// path returns the pairs of n nodes that follow one another.
func path(n int) [][2]int {
	return cycle(0, n)[:n-1]
}

// grid returns the pairs of neighbours in rows of nodes.
func grid(rows, columns int) [][2]int {
	var l [][2]int
	for y := range rows {
		for x := range columns {
			i := y*columns + x
			if x+1 < columns {
				l = append(l, [2]int{i, i + 1})
			}
			if y+1 < rows {
				l = append(l, [2]int{i, i + columns})
			}
		}
	}
	return l
}

// tangle returns m pairs of n nodes, in no order.
func tangle(n, m int) [][2]int {
	var l [][2]int
	for i := range m {
		l = append(l, [2]int{i * 7 % n, (i*i*3 + i*5 + 1) % n})
	}
	return slices.DeleteFunc(l, func(p [2]int) bool { return p[0] == p[1] })
}

// lifted returns the pairs of 2 n + 1 nodes (of Mycielski): they need a further colour, and contain no further triangle.
func lifted(n int, pairs [][2]int) [][2]int {
	l := slices.Clone(pairs)
	for _, p := range pairs {
		l = append(l, [2]int{p[0], n + p[1]}, [2]int{p[1], n + p[0]})
	}
	for i := range n {
		l = append(l, [2]int{n + i, 2 * n})
	}
	return l
}

// disjoint returns the pairs of those sets of k of n numbers that have no number in common (of Kneser), and how many sets there are.
func disjoint(n, k int) (int, [][2]int) {
	var sets []int
	lists(n, 2, func(bits []int) {
		set, size := 0, 0
		for i, bit := range bits {
			set, size = set|bit<<i, size+bit
		}
		if size == k {
			sets = append(sets, set)
		}
	})
	var l [][2]int
	for i, s := range sets {
		for j, other := range sets[:i] {
			if s&other == 0 {
				l = append(l, [2]int{j, i})
			}
		}
	}
	return len(sets), l
}

// colours returns the graph to which a morphism is a colouring with k colours.
func colours(k int) api.Graph {
	return mutual(k, clique(0, k)...)
}

// expectNumber expects a number of morphisms (-1: too many), in order and without an error.
func expectNumber(t *testing.T, about string, a, b api.Graph, want int) {
	t.Helper()
	l, e := morphism.All(a, b)
	if want < 0 {
		expectError(t, about, api.ErrTooLarge, e, l)
		return
	}
	if len(l) != want || e != api.OK {
		t.Errorf("%s: %d morphisms, %d, want %d", about, len(l), e, want)
	}
	for i, m := range l {
		if e := morphism.Valid(a, b, m); e != api.OK {
			t.Errorf("%s: %v has the error %d", about, m, e)
		}
		if i > 0 && !isBefore(l[i-1], m) {
			t.Errorf("%s: %v and %v are not in order", about, l[i-1], m)
		}
	}
}

// isBefore reports whether a morphism is less than another one, by nodes, then by edges.
func isBefore(m, n api.Morphism) bool {
	if !slices.Equal(m.Nodes, n.Nodes) {
		return slices.Compare(m.Nodes, n.Nodes) < 0
	}
	return slices.Compare(m.Edges, n.Edges) < 0
}

// P6.1: All: 2000 morphisms are not too many, and one more is, be they made by nodes or by edges.
func TestLimit(t *testing.T) {
	loops := func(numbers ...int) api.Graph {
		g := alike(1, 0)
		for kind, n := range numbers {
			g.Edges = append(g.Edges, slices.Repeat([]api.Edge{{Type: kind}}, n)...)
		}
		return g
	}
	lone := func(n, edges int) api.Graph {
		g := alike(1, edges)
		g.Nodes = append(g.Nodes, slices.Repeat([]int{1}, n)...)
		return g
	}
	expectNumber(t, "5^3 * 4^2 by edges", loops(1, 1, 1, 1, 1), loops(5, 5, 5, 4, 4), 2000)
	expectNumber(t, "3 * 23 * 29 by edges", loops(1, 1, 1), loops(3, 23, 29), -1)
	expectNumber(t, "25 nodes, 80 edges", lone(1, 1), lone(25, 80), 2000)
	expectNumber(t, "29 nodes, 69 edges", lone(1, 1), lone(29, 69), -1)
	expectNumber(t, "37 nodes, 54 edges", lone(1, 1), lone(37, 54), 1998)
	expectNumber(t, "6^4", alike(4, 0), alike(6, 0), 1296)
	expectNumber(t, "7^4", alike(4, 0), alike(7, 0), -1)
	expectNumber(t, "2^10", alike(10, 0), alike(2, 0), 1024)
	expectNumber(t, "2^11", alike(11, 0), alike(2, 0), -1)
	expectNumber(t, "2^10 by edges", alike(1, 10), alike(1, 2), 1024)
	expectNumber(t, "2^11 by edges", alike(1, 11), alike(1, 2), -1)
	expectNumber(t, "40 * 40", alike(2, 0), alike(40, 0), 1600)
	expectNumber(t, "40^40", alike(40, 0), alike(40, 0), -1)
	expectNumber(t, "80^80", alike(1, 80), alike(1, 80), -1)
	expectNumber(t, "1 of 40 nodes and 80 edges", alike(40, 80), alike(1, 1), 1)
	expectNumber(t, "40^39", alike(40, 80), alike(40, 1), -1)
}

// P6.1: All: how many there are is known of colourings of cliques and cycles, of walks, and of symmetric graphs.
func TestNumbers(t *testing.T) {
	n, petersen := disjoint(5, 2)
	for k := range 7 {
		falling := 1
		for i := range k {
			falling *= 6 - i
		}
		expectNumber(t, "a clique with 6 colours", directed(k, clique(0, k)...), colours(6), falling)
	}
	for i, want := range []int{6, 18, 30, 66, 126, 258, 510, 1026, -1} {
		expectNumber(t, "a cycle with 3 colours", directed(i+3, cycle(0, i+3)...), colours(3), want)
	}
	for i, want := range []int{2, 0, 2, 0, 2} {
		expectNumber(t, "a cycle with 2 colours", directed(i+4, cycle(0, i+4)...), colours(2), want)
	}
	expectNumber(t, "a cycle to itself", directed(40, cycle(0, 40)...), directed(40, cycle(0, 40)...), 40)
	expectNumber(t, "an odd cycle to itself, in both directions", mutual(39, cycle(0, 39)...), mutual(39, cycle(0, 39)...), 78)
	expectNumber(t, "walks of 6 steps", directed(7, path(7)...), mutual(10, petersen...), -1)
	expectNumber(t, "walks of 4 steps", directed(5, path(5)...), mutual(10, petersen...), 810)
	expectNumber(t, "walks one way", directed(20, path(20)...), directed(40, path(40)...), 21)
	expectNumber(t, "Petersen's graph to itself", mutual(n, petersen...), mutual(n, petersen...), 120)
}

// P1 and P6.1: All ends soon where there are no morphisms, also if most of a graph can be mapped in more ways than there is time for.
func TestNone(t *testing.T) {
	join := [2]int{29, 30}
	for k := 2; k <= 9; k++ {
		expectNumber(t, "a clique with too few colours", directed(k+1, clique(0, k+1)...), colours(k), 0)
		expectNumber(t, "a large clique with too few colours", directed(12, clique(0, 12)...), colours(k), 0)
	}
	expectNumber(t, "a clique beside 30 nodes", directed(40, clique(30, 10)...), colours(9), 0)
	expectNumber(t, "an odd cycle beside paths", directed(40, append(path(25), cycle(27, 13)...)...), mutual(40, cycle(0, 40)...), 0)
	expectNumber(t, "an odd cycle at the end of a path", directed(40, append(path(28), cycle(27, 13)...)...), mutual(6, cycle(0, 6)...), 0)
	for _, pairs := range [][][2]int{path(30), grid(5, 6), tangle(30, 30), tangle(30, 45)} {
		expectNumber(t, "a clique far from others, with 7 colours", directed(38, slices.Concat(pairs, clique(30, 8), [][2]int{join})...), colours(7), 0)
		expectNumber(t, "a clique far from others, with 4 colours", directed(35, slices.Concat(pairs, clique(30, 5), [][2]int{join})...), colours(4), 0)
	}
	fifth := lifted(5, cycle(0, 5))
	expectNumber(t, "a graph that needs 4 colours", directed(11, fifth...), colours(3), 0)
	expectNumber(t, "a graph that needs 5 colours", directed(23, lifted(11, fifth)...), colours(4), 0)
	n, sets := disjoint(6, 2)
	expectNumber(t, "another graph that needs 4 colours", directed(n, sets...), colours(3), 0)
	n, sets = disjoint(7, 3)
	expectNumber(t, "a graph with odd cycles of 7 steps", directed(n, sets...), mutual(9, cycle(0, 9)...), 0)
	expectNumber(t, "a graph without a type", build(append(make([]int, 39), 1)), alike(40, 0), 0)
	expectNumber(t, "a graph without a loop", build(make([]int, 40), api.Edge{From: 39, To: 39}), colours(9), 0)
}

// P1 and P6.1: All ends soon where there are too many morphisms, also if they are not easily found.
func TestTooMany(t *testing.T) {
	fifth := lifted(5, cycle(0, 5))
	expectNumber(t, "a graph that needs 4 colours, with 4", directed(11, fifth...), colours(4), -1)
	expectNumber(t, "a graph that needs 5 colours, with 5", directed(23, lifted(11, fifth)...), colours(5), -1)
	n, sets := disjoint(7, 3)
	_, petersen := disjoint(5, 2)
	expectNumber(t, "a graph of 35 nodes with 3 colours", directed(n, sets...), colours(3), -1)
	expectNumber(t, "a graph of 35 nodes to Petersen's", directed(n, sets...), mutual(10, petersen...), -1)
	expectNumber(t, "rows of nodes with 3 colours", directed(36, grid(6, 6)...), colours(3), -1)
	expectNumber(t, "rows of nodes to rows of nodes", directed(36, grid(6, 6)...), mutual(20, grid(5, 4)...), -1)
	expectNumber(t, "a long path", directed(40, path(40)...), mutual(40, cycle(0, 40)...), -1)
}

package iso

import (
	"iter"
	"slices"

	"scarfjoint/api"
	"scarfjoint/index"
)

// levels returns for each node of a graph automorphisms that leave the nodes before it where they are: one for each image that it can have then.
// Each automorphism is composed of one of each level, in one way.
func levels(g api.Graph) [][][]int {
	var pairs []pair
	p := pairUp(g, g)
	for node := range g.Nodes {
		p.kinds = p.stable()
		pairs = append(pairs, p)
		p = p.choose(node, p.first+node)
	}
	l := make([][][]int, len(pairs))
	// The last level is the first one to be found: what is found for a node helps with the nodes before it.
	var known [][]int
	for node, p := range slices.Backward(pairs) {
		known = p.addMoves(node, known)
		for _, move := range reach(node, p.first, known) {
			if move != nil {
				l[node] = append(l[node], move)
			}
		}
	}
	return l
}

// addMoves returns known automorphisms with further ones, of which those are composed that take a node to any image that it can have. Both graphs are the same, and the nodes before it are their own images.
func (p pair) addMoves(node int, known [][]int) [][]int {
	moves := reach(node, p.first, known)
	for image := node + 1; image < p.first; image++ {
		if moves[image] != nil || p.kinds[p.first+image] != p.kinds[node] {
			continue
		}
		if move, ok := p.choose(node, p.first+image).match(); ok {
			known = append(known, move)
			moves = reach(node, p.first, known)
		}
	}
	return known
}

// reach returns for each of n nodes what takes a node to it and is composed of known automorphisms, or nil if nothing does.
func reach(node, n int, known [][]int) [][]int {
	moves := make([][]int, n)
	moves[node] = index.Numbers(0, n)
	queue := []int{node}
	for len(queue) > 0 {
		i := queue[0]
		queue = queue[1:]
		for _, next := range known {
			if image := next[i]; moves[image] == nil {
				moves[image] = index.Follow(moves[i], next)
				queue = append(queue, image)
			}
		}
	}
	return moves
}

// countUp returns how many automorphisms a graph has, by its edges and its levels, but no number that is much greater than 2000.
func countUp(edges []api.Edge, l [][][]int) int {
	n := 1
	for i, x := range edges {
		if n <= maxIsomorphisms {
			n *= 1 + countEdges(edges[:i], x)
		}
	}
	for _, level := range l {
		if n <= maxIsomorphisms {
			n *= len(level)
		}
	}
	return n
}

// countEdges returns how many edges of a list are equal to one.
func countEdges(l []api.Edge, x api.Edge) int {
	n := 0
	for _, y := range l {
		if x == y {
			n++
		}
	}
	return n
}

// isomorphisms visits the isomorphisms from a to b, in order. The images of the nodes by one of them are given, and the levels of a.
func isomorphisms(a, b api.Graph, images []int, l [][][]int) iter.Seq[api.Morphism] {
	return func(yield func(api.Morphism) bool) {
		nodeMaps(images, l, func(nodes []int) bool {
			return edgeMaps(moveAll(a.Edges, nodes), b.Edges, nil, func(edges []int) bool {
				return yield(api.Morphism{Nodes: slices.Clone(nodes), Edges: edges})
			})
		})
	}
}

// nodeMaps visits what images become by automorphisms of the last levels before them, in order. It reports whether it may go on.
func nodeMaps(images []int, levels [][][]int, yield func([]int) bool) bool {
	if len(levels) == 0 {
		return yield(images)
	}
	var l [][]int
	for _, move := range levels[0] {
		l = append(l, index.Follow(move, images))
	}
	// They agree on the nodes before that of the level, and differ there.
	slices.SortFunc(l, slices.Compare)
	for _, moved := range l {
		if !nodeMaps(moved, levels[1:], yield) {
			return false
		}
	}
	return true
}

// edgeMaps visits the lists of places that edges can have among others, each place once, in order, if their first places are given. It reports whether it may go on.
func edgeMaps(edges, others []api.Edge, first []int, yield func([]int) bool) bool {
	if len(first) == len(edges) {
		return yield(slices.Clone(first))
	}
	for k, x := range others {
		if x == edges[len(first)] && !slices.Contains(first, k) {
			if !edgeMaps(edges, others, append(first, k), yield) {
				return false
			}
		}
	}
	return true
}

// moveAll returns edges of which the ends are taken to their images.
func moveAll(edges []api.Edge, images []int) []api.Edge {
	l := make([]api.Edge, len(edges))
	for i, x := range edges {
		l[i] = api.Edge{Type: x.Type, From: images[x.From], To: images[x.To]}
	}
	return l
}

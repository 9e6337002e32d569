package iso

import (
	"iter"
	"slices"

	"scarfjoint/api"
	"scarfjoint/partition"
)

// pair is a drawing of two graphs: its first nodes are those of the first graph, and the others those of the second one.
type pair struct {
	drawing
	first int
}

// chosen is the kind of two nodes of which one has to be the image of the other. Types and colours are not negative.
const chosen = -1

// pairUp returns the pair of two graphs.
func pairUp(a, b api.Graph) pair {
	return pair{draw(a, b), len(a.Nodes)}
}

// rounds visits the rounds that reasons can have, with the signs of the nodes.
func (p pair) rounds() iter.Seq2[int, [][]int] {
	return func(yield func(int, [][]int) bool) {
		signs := p.firstSigns()
		for round := range maxRound + 1 {
			if !yield(round, spellAll(signs)) {
				return
			}
			signs = p.nextSigns(rank(signs))
		}
	}
}

// count returns how many nodes of the first and of the second graph have a sign.
func (p pair) count(signs [][]int, sign []int) (int, int) {
	var numbers [2]int
	for i, other := range signs {
		if slices.Equal(other, sign) {
			numbers[p.graphOf(i)]++
		}
	}
	return numbers[0], numbers[1]
}

// graphOf returns to which graph a node belongs: 0 for the first one, 1 for the second one.
func (p pair) graphOf(node int) int {
	if node < p.first {
		return 0
	}
	return 1
}

// match returns for each node of the first graph its image by an isomorphism to the second graph that preserves kinds, and whether there is one.
func (p pair) match() ([]int, bool) {
	p.kinds = p.stable()
	numbers, ok := p.balance()
	if !ok {
		return nil, false
	}
	images := make([]int, p.first)
	left, right := p.parts(numbers)
	// Whether parts are isomorphic is an equivalence, so no choice among the parts of the second graph has to be taken back.
	for _, part := range left {
		i := slices.IndexFunc(right, func(other []int) bool { return p.matchParts(part, other, images) })
		if i < 0 {
			return nil, false
		}
		right = slices.Delete(right, i, i+1)
	}
	return images, true
}

// balance returns how many nodes of the first graph have each colour, and whether the second graph has as many.
func (p pair) balance() ([]int, bool) {
	numbers, others := make([]int, len(p.kinds)), make([]int, len(p.kinds))
	for i, colour := range p.kinds {
		if p.graphOf(i) == 0 {
			numbers[colour]++
		} else {
			others[colour]++
		}
	}
	return numbers, slices.Equal(numbers, others)
}

// parts returns the nodes of the first and of the second graph that are connected by edges between colours that several nodes of a graph have.
// Other edges are of no account: how many of them a node has, and which, is known from its colour.
func (p pair) parts(numbers []int) ([][]int, [][]int) {
	var l []api.Pair
	for _, x := range p.edges {
		if numbers[p.kinds[x.From]] > 1 && numbers[p.kinds[x.To]] > 1 {
			l = append(l, api.Pair{A: x.From, B: x.To})
		}
	}
	connected, _ := partition.Generate(len(p.kinds), l)
	classes, _ := partition.Classes(connected)
	// The classes are ordered by their least nodes.
	n := slices.IndexFunc(classes, func(part []int) bool { return p.graphOf(part[0]) == 1 })
	if n < 0 {
		return nil, nil
	}
	return classes[:n], classes[n:]
}

// matchParts reports whether two parts are isomorphic, and sets the images of the nodes then.
func (p pair) matchParts(part, other []int, images []int) bool {
	if len(part) != len(other) {
		return false
	}
	node := p.rarest(part)
	for _, image := range other {
		if p.kinds[image] != p.kinds[node] {
			continue
		}
		// Nodes that are alone have the same loops if they have one colour.
		if len(part) == 1 {
			images[node] = image - p.first
			return true
		}
		if l, ok := p.choose(node, image).cut(part, other).match(); ok {
			for i, k := range l {
				images[part[i]] = other[k] - p.first
			}
			return true
		}
	}
	return false
}

// rarest returns a node of a part of which the kind is as rare in it as any.
func (p pair) rarest(part []int) int {
	numbers := map[int]int{}
	for _, i := range part {
		numbers[p.kinds[i]]++
	}
	return slices.MinFunc(part, func(i, k int) int { return numbers[p.kinds[i]] - numbers[p.kinds[k]] })
}

// choose returns the pair in which a node has to have an image.
func (p pair) choose(node, image int) pair {
	p.kinds = slices.Clone(p.kinds)
	p.kinds[node], p.kinds[image] = chosen, chosen
	return p
}

// cut returns the pair of a part of the first and a part of the second graph.
func (p pair) cut(part, other []int) pair {
	c := pair{first: len(part)}
	nodes := slices.Concat(part, other)
	places := make([]int, len(p.kinds))
	for place, i := range nodes {
		places[i] = place
		c.kinds = append(c.kinds, p.kinds[i])
	}
	for _, x := range p.edges {
		from, to := places[x.From], places[x.To]
		if nodes[from] == x.From && nodes[to] == x.To {
			c.edges = append(c.edges, api.Edge{Type: x.Type, From: from, To: to})
		}
	}
	return c
}

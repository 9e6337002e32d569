package morphism

import (
	"iter"
	"slices"

	"scarfjoint/api"
)

// morphisms visits the morphisms from a to b, in order.
func morphisms(a, b api.Graph) iter.Seq[api.Morphism] {
	return func(yield func(api.Morphism) bool) {
		for nodes := range nodeMaps(a, b) {
			for edges := range edgeMaps(a, b, nodes) {
				if !yield(api.Morphism{Nodes: slices.Clone(nodes), Edges: edges}) {
					return
				}
			}
		}
	}
}

// nodeMaps visits the lists of images that the nodes of a have by morphisms to b, in order.
func nodeMaps(a, b api.Graph) iter.Seq[[]int] {
	return func(yield func([]int) bool) {
		n := len(a.Nodes)
		c := firstChoices(a, b)
		if slices.Contains(c[:n], 0) {
			return
		}
		f := newFinder(a, b)
		if c, ok := f.examine(c); ok {
			f.walk(c, func(c choices) bool { return yield(c.images(n)) })
		}
	}
}

// edgeMaps visits the lists of images that the edges of a can have, in order, if those of the nodes are given.
func edgeMaps(a, b api.Graph, nodes []int) iter.Seq[[]int] {
	images := make([][]int, len(a.Edges))
	for i, x := range a.Edges {
		image := moveEnds(x, nodes)
		for k, y := range b.Edges {
			if y == image {
				images[i] = append(images[i], k)
			}
		}
	}
	return func(yield func([]int) bool) {
		combine(images, nil, yield)
	}
}

// combine visits the lists that have some first numbers, and then one number of each further list, in order. It reports whether it may go on.
func combine(lists [][]int, first []int, yield func([]int) bool) bool {
	if len(first) == len(lists) {
		return yield(slices.Clone(first))
	}
	for _, x := range lists[len(first)] {
		if !combine(lists, append(first, x), yield) {
			return false
		}
	}
	return true
}

package morphism

import (
	"math/bits"
	"slices"

	"scarfjoint/api"
)

// maxNodes is the number of nodes that a graph can have.
const maxNodes = 40

// nodeSet is a set of nodes: its bit i says whether it contains the node i.
type nodeSet uint64

// choices has for each node of a graph the nodes of another one that can be its image.
type choices [maxNodes]nodeSet

// link is what an edge between two nodes demands of their images: if v is that of from, that of to is in reach[v].
type link struct {
	from, to int
	reach    [maxNodes]nodeSet
	// blame is 1, and how often the link left a node without an image.
	blame int
}

// finder finds out which images nodes can have together.
type finder struct{ links []link }

// newFinder returns a finder of the images that the ends of the edges of a can have in b.
func newFinder(a, b api.Graph) *finder {
	f := &finder{}
	for _, x := range a.Edges {
		// A loop is a matter of one node: firstChoices heeds it.
		if x.From != x.To {
			f.links = append(f.links, link{from: x.From, to: x.To, reach: reachBy(x.Type, b), blame: 1})
		}
	}
	return f
}

// reachBy returns for each node of a graph the nodes to which an edge of a type leads from it.
func reachBy(kind int, g api.Graph) [maxNodes]nodeSet {
	var reach [maxNodes]nodeSet
	for _, x := range g.Edges {
		if x.Type == kind {
			reach[x.From] |= 1 << x.To
		}
	}
	return reach
}

// firstChoices returns for the nodes of a the nodes of b with their types, and with the loops that they need.
func firstChoices(a, b api.Graph) choices {
	var c choices
	for i, kind := range a.Nodes {
		for k, other := range b.Nodes {
			if other == kind {
				c[i] |= 1 << k
			}
		}
	}
	for _, x := range a.Edges {
		if x.From == x.To {
			c[x.From] &= loopsOf(x.Type, b)
		}
	}
	return c
}

// loopsOf returns the nodes of a graph that have a loop of a type.
func loopsOf(kind int, g api.Graph) nodeSet {
	var s nodeSet
	for v, reached := range reachBy(kind, g) {
		s |= reached & (1 << v)
	}
	return s
}

// walk visits the maps of all nodes that examined choices contain, in order. It reports whether it may go on.
func (f *finder) walk(c choices, yield func(choices) bool) bool {
	node := slices.IndexFunc(c[:], nodeSet.isOpen)
	if node < 0 {
		return yield(c)
	}
	for image := range c[node].all {
		if settled, ok := f.settle(c, node, image); ok && !f.walk(settled, yield) {
			return false
		}
	}
	return true
}

// settle returns the choices that are left if a node has an image, and whether all nodes can have images together then.
func (f *finder) settle(c choices, node, image int) (choices, bool) {
	c[node] = 1 << image
	return f.examine(c)
}

// examine returns the choices that are left, and whether all nodes can have images together.
func (f *finder) examine(c choices) (choices, bool) {
	c, ok := f.narrow(c)
	return c, ok && f.isPossible(c)
}

// narrow removes the choices for one end of a link that go with none for its other end, until there are no such ones. It reports whether each node has one left.
func (f *finder) narrow(c choices) (choices, bool) {
	for {
		before := c
		for i := range f.links {
			x := &f.links[i]
			c[x.from], c[x.to] = x.supported(c[x.from], c[x.to])
			if c[x.from] == 0 {
				x.blame++
				return choices{}, false
			}
		}
		if c == before {
			return c, true
		}
	}
}

// supported returns the choices for both ends that go with one for the other end.
func (x *link) supported(from, to nodeSet) (nodeSet, nodeSet) {
	var sources, targets nodeSet
	for v := range from.all {
		if reached := x.reach[v] & to; reached != 0 {
			sources |= 1 << v
			targets |= reached
		}
	}
	return sources, targets
}

// isPossible reports whether the nodes of narrowed choices can have images together.
func (f *finder) isPossible(c choices) bool {
	node := f.hardest(c)
	if node < 0 {
		return true
	}
	for image := range c[node].all {
		if _, ok := f.settle(c, node, image); ok {
			return true
		}
	}
	return false
}

// hardest returns the node that has the fewest choices for the blame of its links to others with several choices, or -1 if there are no such links.
// Blame leads the search to nodes that cannot have images together: otherwise they would be tried again with all images of the others, for which there is no time.
func (f *finder) hardest(c choices) int {
	var blame [maxNodes]int
	for i := range f.links {
		x := &f.links[i]
		if c[x.from].isOpen() && c[x.to].isOpen() {
			blame[x.from] += x.blame
			blame[x.to] += x.blame
		}
	}
	hardest := -1
	for i, s := range c {
		if blame[i] > 0 && (hardest < 0 || s.size()*blame[hardest] < c[hardest].size()*blame[i]) {
			hardest = i
		}
	}
	return hardest
}

// images returns the images of n nodes that have one choice each.
func (c choices) images(n int) []int {
	l := make([]int, n)
	for i := range l {
		l[i] = bits.TrailingZeros64(uint64(c[i]))
	}
	return l
}

// all visits the nodes of a set, ascending.
func (s nodeSet) all(yield func(int) bool) {
	for ; s != 0; s &= s - 1 {
		if !yield(bits.TrailingZeros64(uint64(s))) {
			return
		}
	}
}

// size returns the number of nodes of a set.
func (s nodeSet) size() int {
	return bits.OnesCount64(uint64(s))
}

// isOpen reports whether a set has several nodes.
func (s nodeSet) isOpen() bool {
	return s.size() > 1
}

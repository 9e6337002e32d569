package iso

import (
	"slices"

	"scarfjoint/api"
)

// drawing shows graphs side by side. The kinds of its nodes are what is known of them: types or colours, or chosen.
type drawing struct {
	kinds []int
	edges []api.Edge
}

// The directions of an edge in the sign of a node, and the bounds of the other numbers there.
const (
	outOf      = 0
	into       = 1
	numTypes   = 100
	numColours = 80
)

// draw returns the drawing of some graphs.
func draw(graphs ...api.Graph) drawing {
	var d drawing
	for _, g := range graphs {
		for _, x := range g.Edges {
			d.edges = append(d.edges, api.Edge{Type: x.Type, From: len(d.kinds) + x.From, To: len(d.kinds) + x.To})
		}
		d.kinds = append(d.kinds, g.Nodes...)
	}
	return d
}

// stable returns the colours in the first round after which their number does not grow any more.
func (d drawing) stable() []int {
	colours := rank(d.firstSigns())
	for {
		next := rank(d.nextSigns(colours))
		// A sign begins with the colour before, so the colours stay as they are if they do not become more.
		if slices.Equal(next, colours) {
			return colours
		}
		colours = next
	}
}

// firstSigns returns the signs of the nodes in round 0.
func (d drawing) firstSigns() [][]int {
	signs := make([][]int, len(d.kinds))
	for i, kind := range d.kinds {
		signs[i] = []int{kind}
	}
	return signs
}

// nextSigns returns the signs of the nodes in the round after the one in which they have some colours. In place of three numbers they have the word for them.
func (d drawing) nextSigns(colours []int) [][]int {
	signs := make([][]int, len(colours))
	for i, n := range d.degrees() {
		signs[i] = append(make([]int, 0, 1+n), colours[i])
	}
	for _, x := range d.edges {
		signs[x.From] = append(signs[x.From], word(outOf, x.Type, colours[x.To]))
		signs[x.To] = append(signs[x.To], word(into, x.Type, colours[x.From]))
	}
	for _, sign := range signs {
		slices.Sort(sign[1:])
	}
	return signs
}

// degrees returns how many edges are at each node; a loop counts twice.
func (d drawing) degrees() []int {
	l := make([]int, len(d.kinds))
	for _, x := range d.edges {
		l[x.From]++
		l[x.To]++
	}
	return l
}

// word returns one number for the three numbers of an edge in a sign. Words are in the order of what they stand for.
func word(direction, kind, colour int) int {
	return (direction*numTypes+kind)*numColours + colour
}

// spellAll returns signs with three numbers in place of each word.
func spellAll(signs [][]int) [][]int {
	l := make([][]int, len(signs))
	for i, sign := range signs {
		l[i] = append(l[i], sign[0])
		for _, w := range sign[1:] {
			l[i] = append(l[i], w/numColours/numTypes, w/numColours%numTypes, w%numColours)
		}
	}
	return l
}

// rank returns for each sign how many different ones are less: the colours.
func rank(signs [][]int) []int {
	all := distinct(signs)
	colours := make([]int, len(signs))
	for i, sign := range signs {
		colours[i], _ = slices.BinarySearchFunc(all, sign, slices.Compare)
	}
	return colours
}

// distinct returns the different ones of some signs, ascending.
func distinct(signs [][]int) [][]int {
	all := slices.Clone(signs)
	slices.SortFunc(all, slices.Compare)
	return slices.CompactFunc(all, slices.Equal)
}

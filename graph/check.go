package graph

import (
	"slices"

	"scarfjoint/api"
	"scarfjoint/index"
)

// The bounds of graphs.
const (
	maxNodes = 40
	maxEdges = 80
	numTypes = 100
)

// checkNode returns the error of a graph and the type of a further node.
func checkNode(g api.Graph, kind int) api.Errno {
	e := Valid(g)
	switch {
	case e != api.OK:
		return e
	case !index.In(kind, numTypes):
		return api.ErrRange
	case len(g.Nodes) == maxNodes:
		return api.ErrTooLarge
	}
	return api.OK
}

// checkEdge returns the error of a graph and a further edge.
func checkEdge(g api.Graph, x api.Edge) api.Errno {
	e := Valid(g)
	switch {
	case e != api.OK:
		return e
	case !isEdge(g, x):
		return api.ErrRange
	case len(g.Edges) == maxEdges:
		return api.ErrTooLarge
	}
	return api.OK
}

// checkRemove returns the error of a graph and the nodes and edges to remove.
func checkRemove(g api.Graph, nodes, edges []int) api.Errno {
	if e := Valid(g); e != api.OK {
		return e
	}
	if e := index.CheckAscending(nodes, len(g.Nodes)); e != api.OK {
		return e
	}
	if e := index.CheckAscending(edges, len(g.Edges)); e != api.OK {
		return e
	}
	for i, x := range g.Edges {
		isEndRemoved := slices.Contains(nodes, x.From) || slices.Contains(nodes, x.To)
		if isEndRemoved && !slices.Contains(edges, i) {
			return api.ErrDangling
		}
	}
	return api.OK
}

// checkUnion returns the error of two graphs that are to be united.
func checkUnion(a, b api.Graph) api.Errno {
	if e := Valid(a); e != api.OK {
		return e
	}
	if e := Valid(b); e != api.OK {
		return e
	}
	if len(a.Nodes)+len(b.Nodes) > maxNodes || len(a.Edges)+len(b.Edges) > maxEdges {
		return api.ErrTooLarge
	}
	return api.OK
}

// checkIncident returns the error of a graph and a node of it.
func checkIncident(g api.Graph, node int) api.Errno {
	if e := Valid(g); e != api.OK {
		return e
	}
	if !index.In(node, len(g.Nodes)) {
		return api.ErrRange
	}
	return api.OK
}

// checkReorder returns the error of a graph and an order for it.
func checkReorder(g api.Graph, m api.Morphism) api.Errno {
	if e := Valid(g); e != api.OK {
		return e
	}
	if len(m.Nodes) != len(g.Nodes) || len(m.Edges) != len(g.Edges) {
		return api.ErrArity
	}
	if e := checkPermutation(m.Nodes); e != api.OK {
		return e
	}
	return checkPermutation(m.Edges)
}

// checkPermutation returns the error of a list that has to contain each index of its elements.
func checkPermutation(l []int) api.Errno {
	// The chapter asks of the whole list whether a number is out of range, and only then whether one occurs twice.
	for _, x := range l {
		if !index.In(x, len(l)) {
			return api.ErrRange
		}
	}
	for i, x := range l {
		if slices.Contains(l[:i], x) {
			return api.ErrExists
		}
	}
	return api.OK
}

// isEdge reports whether a graph can have an edge, as far as its type and its ends are concerned.
func isEdge(g api.Graph, x api.Edge) bool {
	return index.In(x.Type, numTypes) && index.In(x.From, len(g.Nodes)) && index.In(x.To, len(g.Nodes))
}

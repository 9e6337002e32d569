package types

import (
	"slices"

	"scarfjoint/api"
	"scarfjoint/index"
	"scarfjoint/token"
)

// The bounds of type graphs.
const (
	maxNodes        = 12
	maxEdges        = 20
	maxOwnAttrs     = 4
	maxAttrs        = 8
	maxNames        = 20
	maxMultiplicity = 40
)

// check returns the error of a type graph, or ErrRange if it does not have all of some node types.
func check(t api.Types, nodes ...int) api.Errno {
	if _, e := Valid(t); e != api.OK {
		return e
	}
	for _, a := range nodes {
		if !index.In(a, len(t.Nodes)) {
			return api.ErrRange
		}
	}
	return api.OK
}

// checkNode returns the error of a node type behind others without an error.
func checkNode(before []api.NodeType, x api.NodeType) api.Errno {
	if e := checkName(before, x, func(y api.NodeType) string { return y.Name }); e != api.OK {
		return e
	}
	if x.Parent != -1 && !index.In(x.Parent, len(before)) {
		return api.ErrRange
	}
	inherited := attributes(before, x.Parent)
	if len(x.Attrs) > maxOwnAttrs || len(inherited)+len(x.Attrs) > maxAttrs {
		return api.ErrTooLarge
	}
	all := slices.Concat(inherited, x.Attrs)
	for i := len(inherited); i < len(all); i++ {
		if e := checkAttr(all[:i], all[i]); e != api.OK {
			return e
		}
	}
	return api.OK
}

// checkAttr returns the error of an attribute behind others of its node type.
func checkAttr(before []api.Attr, x api.Attr) api.Errno {
	if e := checkName(before, x, func(y api.Attr) string { return y.Name }); e != api.OK {
		return e
	}
	if e := checkNames(x.Names); e != api.OK {
		return e
	}
	if !isInterval(x) {
		return api.ErrRange
	}
	return api.OK
}

// checkNames returns the error of the names of an attribute.
func checkNames(l []string) api.Errno {
	if len(l) > maxNames {
		return api.ErrTooLarge
	}
	for i, s := range l {
		if e := checkName(l[:i], s, func(s string) string { return s }); e != api.OK {
			return e
		}
	}
	return api.OK
}

// isInterval reports whether an attribute may have its Low and High.
func isInterval(x api.Attr) bool {
	if len(x.Names) > 0 {
		return x.Low == 0 && x.High == len(x.Names)-1
	}
	return -api.MaxValue <= x.Low && x.Low <= x.High && x.High <= api.MaxValue
}

// checkEdge returns the error of an edge type behind others, in a type graph with a number of node types.
func checkEdge(nodes int, before []api.EdgeType, x api.EdgeType) api.Errno {
	if e := checkName(before, x, func(y api.EdgeType) string { return y.Name }); e != api.OK {
		return e
	}
	switch {
	case !index.In(x.From, nodes) || !index.In(x.To, nodes):
		return api.ErrRange
	case !areBounds(x.OutLow, x.OutHigh) || !areBounds(x.InLow, x.InHigh):
		return api.ErrRange
	}
	return api.OK
}

// checkName returns the error of the name of an element behind others.
func checkName[T any](before []T, x T, name func(T) string) api.Errno {
	has := func(y T) bool { return name(y) == name(x) }
	switch {
	case !token.IsName(name(x)):
		return api.ErrSyntax
	case slices.ContainsFunc(before, has):
		return api.ErrExists
	}
	return api.OK
}

// areBounds reports whether an edge type may bound its edges so.
func areBounds(low, high int) bool {
	isHigh := high == -1 || low <= high && high <= maxMultiplicity
	return 0 <= low && low <= maxMultiplicity && isHigh
}

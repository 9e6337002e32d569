package types_test

import (
	"slices"
	"strconv"
	"strings"
	"testing"

	"scarfjoint/api"
	"scarfjoint/types"
)

// edit is a change of a type graph.
type edit func(x *api.Types)

// plain returns a type graph that has every kind of part and no error: B and C are below A, and D is below C.
func plain() api.Types {
	return api.Types{
		Nodes: []api.NodeType{
			{Name: "A", Parent: -1, Attrs: []api.Attr{number("a", 0, 9)}},
			{Name: "B", Parent: 0, Abstract: true, Attrs: []api.Attr{names("b", "p", "q", "r"), number("c", -5, 5)}},
			{Name: "C", Parent: 0},
			{Name: "D", Parent: 2, Attrs: []api.Attr{number("d", 0, 0)}},
		},
		Edges: []api.EdgeType{
			{Name: "e", From: 0, To: 1, OutHigh: -1, InLow: 1, InHigh: 2},
			{Name: "f", From: 3, To: 3, OutLow: 40, OutHigh: 40, InHigh: 0},
		},
	}
}

// number returns an attribute that is a number, and names one that is an enumeration.
func number(name string, low, high int) api.Attr {
	return api.Attr{Name: name, Low: low, High: high}
}

func names(name string, l ...string) api.Attr {
	return api.Attr{Name: name, High: len(l) - 1, Names: l}
}

// numbered returns n names that begin with a letter.
func numbered(letter string, n int) []string {
	var l []string
	for i := range n {
		l = append(l, letter+strconv.Itoa(i))
	}
	return l
}

// attrs returns n attributes with names that begin with a letter.
func attrs(letter string, n int) []api.Attr {
	var l []api.Attr
	for _, s := range numbered(letter, n) {
		l = append(l, number(s, 0, 1))
	}
	return l
}

// expectValid expects an error of a type graph, and that all other functions have it, too.
func expectValid(t *testing.T, about string, x api.Types, name string, e api.Errno) {
	t.Helper()
	if s, f := types.Valid(x); s != name || f != e {
		t.Errorf("%s: Valid = %q, %d, want %q, %d", about, s, f, name, e)
	}
	for _, a := range []int{0, 99} {
		if e == api.OK && a > 0 {
			e = api.ErrRange
		}
		expectError(t, about, x, a, a, e, e)
		if is, fits := types.Is(x, a, a), types.Fits(x, 0, a, 1); e != api.OK && (is || fits) {
			t.Errorf("%s: Is(%d, %d) = %v, Fits(0, %d, 1) = %v", about, a, a, is, a, fits)
		}
	}
}

// expectError expects errors of Meet and of Join, and of all functions of one type where both are equal.
func expectError(t *testing.T, about string, x api.Types, a, b int, meet, join api.Errno) {
	t.Helper()
	if m, e := types.Meet(x, a, b); e != meet || e != api.OK && m != 0 {
		t.Errorf("%s: Meet(%d, %d) = %d, %d, want the error %d", about, a, b, m, e, meet)
	}
	if j, e := types.Join(x, a, b); e != join || e != api.OK && j != 0 {
		t.Errorf("%s: Join(%d, %d) = %d, %d, want the error %d", about, a, b, j, e, join)
	}
	if a != b {
		return
	}
	if l, e := types.Ancestors(x, a); e != meet || e != api.OK && len(l) > 0 {
		t.Errorf("%s: Ancestors(%d) = %v, %d, want the error %d", about, a, l, e, meet)
	}
	if l, e := types.Below(x, a); e != meet || e != api.OK && len(l) > 0 {
		t.Errorf("%s: Below(%d) = %v, %d, want the error %d", about, a, l, e, meet)
	}
	if l, e := types.Attrs(x, a); e != meet || e != api.OK && len(l) > 0 {
		t.Errorf("%s: Attrs(%d) = %v, %d, want the error %d", about, a, l, e, meet)
	}
}

// P4.1: what a type graph may be, up to its bounds.
func TestRight(t *testing.T) {
	long := strings.Repeat("x", 20)
	for i, change := range []edit{
		func(x *api.Types) {},
		func(x *api.Types) { x.Nodes, x.Edges = x.Nodes[:1], nil },
		func(x *api.Types) {
			*x = api.Types{Nodes: []api.NodeType{{Name: "N", Parent: -1}}, Edges: []api.EdgeType{}}
		},
		func(x *api.Types) { addNodes(x, 12) },
		func(x *api.Types) { addEdges(x, 20) },
		func(x *api.Types) { x.Nodes[1].Name, x.Nodes[1].Attrs[0].Name, x.Edges[0].Name = long, long, long },
		func(x *api.Types) { x.Nodes[1].Name, x.Nodes[2].Name, x.Nodes[3].Name = "a_1", "A_1", "a_" },
		func(x *api.Types) { x.Edges[0].Name, x.Edges[1].Name = "A", "a" },
		func(x *api.Types) { x.Nodes[1].Attrs[0] = names("B", "B", "b", "c", "A") },
		func(x *api.Types) { x.Nodes[2].Attrs = []api.Attr{names("b", "q", "p"), number("c", 0, 0)} },
		func(x *api.Types) { x.Nodes[2].Parent, x.Nodes[2].Attrs = -1, []api.Attr{number("a", 0, 0)} },
		func(x *api.Types) { x.Nodes[3].Parent = 1 },
		func(x *api.Types) { x.Nodes[1].Attrs = attrs("x", 4) },
		func(x *api.Types) { x.Nodes[2].Attrs, x.Nodes[3].Attrs = attrs("x", 4), attrs("y", 3) },
		func(x *api.Types) { x.Nodes[2].Attrs, x.Nodes[3].Attrs = attrs("x", 3), attrs("y", 4) },
		func(x *api.Types) { x.Nodes[1].Attrs, x.Nodes[3].Attrs = attrs("x", 4), attrs("x", 4) },
		func(x *api.Types) { x.Nodes[0].Attrs[0] = number("a", -1000000, 1000000) },
		func(x *api.Types) { x.Nodes[0].Attrs[0] = number("a", 1000000, 1000000) },
		func(x *api.Types) { x.Nodes[0].Attrs[0] = number("a", -1000000, -1000000) },
		func(x *api.Types) { x.Nodes[0].Attrs[0].Names = []string{} },
		func(x *api.Types) { x.Nodes[0].Attrs[0] = names("a", "a") },
		func(x *api.Types) { x.Nodes[0].Attrs[0] = names("a", numbered("n", 20)...) },
		func(x *api.Types) { x.Edges[0].From, x.Edges[0].To = 3, 3 },
		func(x *api.Types) { x.Edges[0].OutLow, x.Edges[0].OutHigh = 40, -1 },
		func(x *api.Types) { x.Edges[0].InLow, x.Edges[0].InHigh = 40, -1 },
		func(x *api.Types) { x.Edges[0].OutLow, x.Edges[0].OutHigh = 0, 40 },
		func(x *api.Types) { x.Edges[0].InLow, x.Edges[0].InHigh = 0, 40 },
		func(x *api.Types) { x.Edges[0].InLow, x.Edges[0].InHigh = 7, 7 },
	} {
		x := plain()
		change(&x)
		expectValid(t, "right type graph "+strconv.Itoa(i), x, "", api.OK)
	}
}

// addNodes adds node types until there are n.
func addNodes(x *api.Types, n int) {
	for _, s := range numbered("N", n-len(x.Nodes)) {
		x.Nodes = append(x.Nodes, api.NodeType{Name: s, Parent: len(x.Nodes) - 1})
	}
}

// addEdges adds edge types until there are n.
func addEdges(x *api.Types, n int) {
	for _, s := range numbered("E", n-len(x.Edges)) {
		x.Edges = append(x.Edges, api.EdgeType{Name: s, OutHigh: -1, InHigh: -1})
	}
}

// P4.1: a name of the type graph is one of layer 1, with at most 20 bytes.
func TestNoNames(t *testing.T) {
	for _, s := range []string{"", " ", "1", "_a", "a b", "a-b", "a ", " a", "\"a\"", "ä", "a\x00", "a#", strings.Repeat("x", 21)} {
		for i, c := range []struct {
			change edit
			name   string
		}{
			{func(x *api.Types) { x.Nodes[0].Name = s }, s},
			{func(x *api.Types) { x.Nodes[3].Name = s }, s},
			{func(x *api.Types) { x.Nodes[0].Attrs[0].Name = s }, "A"},
			{func(x *api.Types) { x.Nodes[1].Attrs[1].Name = s }, "B"},
			{func(x *api.Types) { x.Nodes[1].Attrs[0].Names[0] = s }, "B"},
			{func(x *api.Types) { x.Nodes[1].Attrs[0].Names[2] = s }, "B"},
			{func(x *api.Types) { x.Edges[0].Name = s }, s},
			{func(x *api.Types) { x.Edges[1].Name = s }, s},
		} {
			x := plain()
			c.change(&x)
			expectValid(t, strconv.Quote(s)+" as name "+strconv.Itoa(i), x, c.name, api.ErrSyntax)
		}
	}
}

// fault is a change of the plain type graph that gives it an error; what it changes is not undone by those before it in a list.
type fault struct {
	change edit
	name   string
	e      api.Errno
}

// nodeFault and edgeFault change one type.
func nodeFault(i int, name string, e api.Errno, change func(x *api.NodeType)) fault {
	return fault{func(x *api.Types) { change(&x.Nodes[i]) }, name, e}
}

func attrFault(i, k int, name string, e api.Errno, change func(x *api.Attr)) fault {
	return nodeFault(i, name, e, func(x *api.NodeType) { change(&x.Attrs[k]) })
}

func edgeFault(i int, name string, e api.Errno, change func(x *api.EdgeType)) fault {
	return fault{func(x *api.Types) { change(&x.Edges[i]) }, name, e}
}

// sizeFaults are the faults of the whole type graph.
func sizeFaults() []fault {
	return []fault{
		{func(x *api.Types) { x.Nodes = nil }, "", api.ErrEmpty},
		{func(x *api.Types) { addNodes(x, 13) }, "", api.ErrTooLarge},
		{func(x *api.Types) { addEdges(x, 21) }, "", api.ErrTooLarge},
	}
}

// nodeFaults are the faults of the node types, in the order in which the chapter names them.
func nodeFaults() []fault {
	return []fault{
		nodeFault(0, "0", api.ErrSyntax, func(x *api.NodeType) { x.Name = "0" }),
		nodeFault(0, "A", api.ErrRange, func(x *api.NodeType) { x.Parent = 0 }),
		attrFault(0, 0, "A", api.ErrSyntax, func(x *api.Attr) { x.Name = "" }),
		attrFault(0, 0, "A", api.ErrRange, func(x *api.Attr) { x.Low = 10 }),
		nodeFault(1, "?", api.ErrSyntax, func(x *api.NodeType) { x.Name = "?" }),
		nodeFault(1, "A", api.ErrExists, func(x *api.NodeType) { x.Name = "A" }),
		nodeFault(1, "B", api.ErrRange, func(x *api.NodeType) { x.Parent = -2 }),
		nodeFault(1, "B", api.ErrTooLarge, func(x *api.NodeType) { x.Attrs = append(x.Attrs, attrs("x", 3)...) }),
		attrFault(1, 0, "B", api.ErrSyntax, func(x *api.Attr) { x.Name = "b c" }),
		attrFault(1, 0, "B", api.ErrExists, func(x *api.Attr) { x.Name = "a" }),
		attrFault(1, 0, "B", api.ErrTooLarge, func(x *api.Attr) { x.Names = append(x.Names, numbered("n", 18)...) }),
		attrFault(1, 0, "B", api.ErrSyntax, func(x *api.Attr) { x.Names[0] = "" }),
		attrFault(1, 0, "B", api.ErrSyntax, func(x *api.Attr) { x.Names[1] = "2" }),
		attrFault(1, 0, "B", api.ErrExists, func(x *api.Attr) { x.Names[1] = "p" }),
		attrFault(1, 0, "B", api.ErrSyntax, func(x *api.Attr) { x.Names[2] = "<" }),
		attrFault(1, 0, "B", api.ErrExists, func(x *api.Attr) { x.Names[2] = "q" }),
		attrFault(1, 0, "B", api.ErrRange, func(x *api.Attr) { x.High++ }),
		attrFault(1, 1, "B", api.ErrSyntax, func(x *api.Attr) { x.Name = "-" }),
		attrFault(1, 1, "B", api.ErrExists, func(x *api.Attr) { x.Name = "b" }),
		attrFault(1, 1, "B", api.ErrRange, func(x *api.Attr) { x.High = -6 }),
		nodeFault(2, "A", api.ErrExists, func(x *api.NodeType) { x.Name = "A" }),
		nodeFault(2, "C", api.ErrRange, func(x *api.NodeType) { x.Parent = 2 }),
		nodeFault(2, "C", api.ErrTooLarge, func(x *api.NodeType) { x.Attrs = attrs("x", 5) }),
		nodeFault(3, "D", api.ErrRange, func(x *api.NodeType) { x.Parent = 4 }),
		attrFault(3, 0, "D", api.ErrExists, func(x *api.Attr) { x.Name = "a" }),
	}
}

// edgeFaults are the faults of the edge types, in the order in which the chapter names them.
func edgeFaults() []fault {
	return []fault{
		edgeFault(0, "", api.ErrSyntax, func(x *api.EdgeType) { x.Name = "" }),
		edgeFault(0, "e", api.ErrRange, func(x *api.EdgeType) { x.To = 4 }),
		edgeFault(0, "e", api.ErrRange, func(x *api.EdgeType) { x.InLow = 3 }),
		edgeFault(1, "->", api.ErrSyntax, func(x *api.EdgeType) { x.Name = "->" }),
		edgeFault(1, "e", api.ErrExists, func(x *api.EdgeType) { x.Name = "e" }),
		edgeFault(1, "f", api.ErrRange, func(x *api.EdgeType) { x.From = -1 }),
		edgeFault(1, "f", api.ErrRange, func(x *api.EdgeType) { x.InHigh = 41 }),
	}
}

// P4.1: of two errors that apply, the one that the chapter names first is returned.
func TestFirstError(t *testing.T) {
	all := slices.Concat(sizeFaults(), nodeFaults(), edgeFaults())
	for i, first := range all {
		for k, second := range all[i:] {
			x := plain()
			// An earlier fault replaces what a later one writes to the same place.
			second.change(&x)
			first.change(&x)
			expectValid(t, "faults "+strconv.Itoa(i)+" and "+strconv.Itoa(i+k), x, first.name, first.e)
		}
	}
}

// P4.1: what is out of bounds, at each bound.
func TestRange(t *testing.T) {
	for i, c := range []fault{
		nodeFault(0, "A", api.ErrRange, func(x *api.NodeType) { x.Parent = 1 }),
		nodeFault(0, "A", api.ErrRange, func(x *api.NodeType) { x.Parent = -2 }),
		nodeFault(3, "D", api.ErrRange, func(x *api.NodeType) { x.Parent = 3 }),
		nodeFault(3, "D", api.ErrRange, func(x *api.NodeType) { x.Parent = 1 << 62 }),
		attrFault(0, 0, "A", api.ErrRange, func(x *api.Attr) { *x = number("a", -1000001, 0) }),
		attrFault(0, 0, "A", api.ErrRange, func(x *api.Attr) { *x = number("a", 0, 1000001) }),
		attrFault(0, 0, "A", api.ErrRange, func(x *api.Attr) { *x = number("a", 4, 3) }),
		attrFault(0, 0, "A", api.ErrRange, func(x *api.Attr) { *x = number("a", 1000001, 1000001) }),
		attrFault(0, 0, "A", api.ErrRange, func(x *api.Attr) { *x = number("a", -1000001, -1000001) }),
		attrFault(1, 0, "B", api.ErrRange, func(x *api.Attr) { x.Low = 1 }),
		attrFault(1, 0, "B", api.ErrRange, func(x *api.Attr) { x.Low = -1 }),
		attrFault(1, 0, "B", api.ErrRange, func(x *api.Attr) { x.High = 1 }),
		attrFault(1, 0, "B", api.ErrRange, func(x *api.Attr) { x.High = 3 }),
		attrFault(1, 0, "B", api.ErrRange, func(x *api.Attr) { x.High = -1 }),
		attrFault(1, 0, "B", api.ErrRange, func(x *api.Attr) { x.High, x.Names = 1, x.Names[:1] }),
		edgeFault(0, "e", api.ErrRange, func(x *api.EdgeType) { x.From = 4 }),
		edgeFault(0, "e", api.ErrRange, func(x *api.EdgeType) { x.From = -1 }),
		edgeFault(0, "e", api.ErrRange, func(x *api.EdgeType) { x.To = 4 }),
		edgeFault(0, "e", api.ErrRange, func(x *api.EdgeType) { x.To = -1 }),
		edgeFault(0, "e", api.ErrRange, func(x *api.EdgeType) { x.OutLow = -1 }),
		edgeFault(0, "e", api.ErrRange, func(x *api.EdgeType) { x.OutLow = 41 }),
		edgeFault(0, "e", api.ErrRange, func(x *api.EdgeType) { x.OutLow, x.OutHigh = 5, 4 }),
		edgeFault(0, "e", api.ErrRange, func(x *api.EdgeType) { x.OutLow, x.OutHigh = -1, -1 }),
		edgeFault(0, "e", api.ErrRange, func(x *api.EdgeType) { x.OutLow, x.OutHigh = 41, 41 }),
		edgeFault(0, "e", api.ErrRange, func(x *api.EdgeType) { x.OutHigh = -2 }),
		edgeFault(0, "e", api.ErrRange, func(x *api.EdgeType) { x.OutHigh = 41 }),
		edgeFault(0, "e", api.ErrRange, func(x *api.EdgeType) { x.InLow = -1 }),
		edgeFault(0, "e", api.ErrRange, func(x *api.EdgeType) { x.InLow, x.InHigh = 41, -1 }),
		edgeFault(0, "e", api.ErrRange, func(x *api.EdgeType) { x.InHigh = 0 }),
		edgeFault(0, "e", api.ErrRange, func(x *api.EdgeType) { x.InHigh = -2 }),
		edgeFault(0, "e", api.ErrRange, func(x *api.EdgeType) { x.InLow, x.InHigh = 0, 41 }),
	} {
		x := plain()
		c.change(&x)
		expectValid(t, "range "+strconv.Itoa(i), x, c.name, c.e)
	}
}

// P4.1: how many attributes a node type may have, and which names they may have.
func TestAttributeErrors(t *testing.T) {
	for i, c := range []fault{
		{func(x *api.Types) { x.Nodes[2].Attrs, x.Nodes[3].Attrs = attrs("x", 4), attrs("y", 4) }, "D", api.ErrTooLarge},
		{func(x *api.Types) { x.Nodes[2].Attrs, x.Nodes[3].Attrs = attrs("x", 4), attrs("x", 4) }, "D", api.ErrTooLarge},
		{func(x *api.Types) { x.Nodes[2].Attrs, x.Nodes[3].Attrs = attrs("x", 3), attrs("y", 5) }, "D", api.ErrTooLarge},
		{func(x *api.Types) { x.Nodes[2].Attrs, x.Nodes[3].Attrs = attrs("x", 4), attrs("x", 3) }, "D", api.ErrExists},
		{func(x *api.Types) { x.Nodes[3].Attrs = attrs("x", 5) }, "D", api.ErrTooLarge},
		{func(x *api.Types) { x.Nodes[2].Attrs = attrs("d", 1); x.Nodes[3].Attrs[0].Name = "d0" }, "D", api.ErrExists},
		{func(x *api.Types) {
			x.Nodes[3].Attrs = []api.Attr{number("d", 0, 0), number("e", 0, 0), number("d", 1, 0)}
		}, "D", api.ErrExists},
		{func(x *api.Types) { x.Nodes[3].Attrs[0] = names("d", numbered("n", 21)...) }, "D", api.ErrTooLarge},
		{func(x *api.Types) { x.Nodes[3].Attrs[0] = names("d", append(numbered("n", 19), "n0")...) }, "D", api.ErrExists},
	} {
		x := plain()
		c.change(&x)
		expectValid(t, "attributes "+strconv.Itoa(i), x, c.name, c.e)
	}
}

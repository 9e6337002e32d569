package types_test

import (
	"reflect"
	"slices"
	"testing"

	"scarfjoint/api"
	"scarfjoint/types"
)

// example returns the type graph of the chapter's examples.
func example() api.Types {
	return api.Types{
		Nodes: []api.NodeType{
			{Name: "Account", Parent: -1, Abstract: true, Attrs: []api.Attr{number("balance", -1000, 1000)}},
			{Name: "Cash", Parent: 0},
			{Name: "Loan", Parent: 0, Attrs: []api.Attr{names("state", "open", "closed")}},
			{Name: "Person", Parent: -1},
		},
		Edges: []api.EdgeType{
			{Name: "owns", From: 3, To: 0, OutHigh: -1, InLow: 1, InHigh: 1},
			{Name: "pays", From: 1, To: 1, OutHigh: -1, InHigh: -1},
		},
	}
}

// expectTypes expects the supertypes and the subtypes of a type, with it.
func expectTypes(t *testing.T, x api.Types, a int, up, down []int) {
	t.Helper()
	if l, e := types.Ancestors(x, a); !slices.Equal(l, up) || e != api.OK {
		t.Errorf("Ancestors(%d) = %v, %d, want %v", a, l, e, up)
	}
	if l, e := types.Below(x, a); !slices.Equal(l, down) || e != api.OK {
		t.Errorf("Below(%d) = %v, %d, want %v", a, l, e, down)
	}
}

// expectAttrs expects the attributes of a type.
func expectAttrs(t *testing.T, x api.Types, a int, want ...api.Attr) {
	t.Helper()
	same := func(x, y api.Attr) bool {
		return x.Name == y.Name && x.Low == y.Low && x.High == y.High && slices.Equal(x.Names, y.Names)
	}
	if l, e := types.Attrs(x, a); !slices.EqualFunc(l, want, same) || e != api.OK {
		t.Errorf("Attrs(%d) = %v, %d, want %v", a, l, e, want)
	}
}

// P4.1: the chapter's examples.
func TestExamples(t *testing.T) {
	x := example()
	expectValid(t, "the example", x, "", api.OK)
	expectTypes(t, x, 0, []int{0}, []int{0, 1, 2})
	expectMeet(t, x, 1, 0, 1, api.OK)
	expectMeet(t, x, 1, 2, 0, api.ErrType)
	expectJoin(t, x, 1, 2, 0, api.OK)
	expectJoin(t, x, 1, 3, 0, api.ErrNone)
}

// P4.1: Ancestors and Below, of types with and without others above and below them.
func TestTypes(t *testing.T) {
	x := example()
	expectTypes(t, x, 1, []int{0, 1}, []int{1})
	expectTypes(t, x, 2, []int{0, 2}, []int{2})
	expectTypes(t, x, 3, []int{3}, []int{3})
	x = plain()
	expectTypes(t, x, 0, []int{0}, []int{0, 1, 2, 3})
	expectTypes(t, x, 2, []int{0, 2}, []int{2, 3})
	expectTypes(t, x, 3, []int{0, 2, 3}, []int{3})
}

// P4.1: Attrs: the inherited ones, and then the own ones.
func TestAttrs(t *testing.T) {
	balance, state := number("balance", -1000, 1000), names("state", "open", "closed")
	x := example()
	expectAttrs(t, x, 0, balance)
	expectAttrs(t, x, 1, balance)
	expectAttrs(t, x, 2, balance, state)
	expectAttrs(t, x, 3)
	x = plain()
	expectAttrs(t, x, 1, number("a", 0, 9), names("b", "p", "q", "r"), number("c", -5, 5))
	expectAttrs(t, x, 3, number("a", 0, 9), number("d", 0, 0))
	x.Nodes[2].Attrs, x.Nodes[3].Attrs = attrs("z", 3), attrs("y", 4)
	expectAttrs(t, x, 3, slices.Concat([]api.Attr{number("a", 0, 9)}, attrs("z", 3), attrs("y", 4))...)
}

// P4.1: what functions return for types that do not exist: Is and Fits false, the others ErrRange.
func TestNoType(t *testing.T) {
	x := example()
	for _, a := range []int{-1 << 63, -2, -1, 4, 12, 1<<63 - 1} {
		expectError(t, "no type", x, a, a, api.ErrRange, api.ErrRange)
		for b := range 4 {
			expectError(t, "no first type", x, a, b, api.ErrRange, api.ErrRange)
			expectError(t, "no second type", x, b, a, api.ErrRange, api.ErrRange)
			if types.Is(x, a, b) || types.Is(x, b, a) || types.Is(x, a, a) {
				t.Errorf("Is of %d and %d holds", a, b)
			}
			if types.Fits(x, 0, a, b) || types.Fits(x, 0, b, a) || types.Fits(x, 1, a, a) {
				t.Errorf("Fits with %d and %d holds", a, b)
			}
		}
	}
	for _, edge := range []int{-1 << 63, -1, 2, 20, 1<<63 - 1} {
		if types.Fits(x, edge, 3, 0) || types.Fits(x, edge, 1, 1) {
			t.Errorf("Fits of the edge type %d holds", edge)
		}
	}
}

// P4.1: Fits: both ends count, in their order, and multiplicities and abstract types do not.
func TestFits(t *testing.T) {
	x := example()
	x.Edges[0].OutHigh, x.Edges[0].InLow, x.Edges[0].InHigh = 0, 0, 0
	for from := range 4 {
		for to := range 4 {
			if got, want := types.Fits(x, 0, from, to), from == 3 && to != 3; got != want {
				t.Errorf("Fits(0, %d, %d) = %v", from, to, got)
			}
			if got, want := types.Fits(x, 1, from, to), from == 1 && to == 1; got != want {
				t.Errorf("Fits(1, %d, %d) = %v", from, to, got)
			}
		}
	}
}

// write overwrites attributes and their names, up to their capacities.
func write(l []api.Attr) {
	for i := range l[:cap(l)] {
		names := l[:cap(l)][i].Names
		for k := range names[:cap(names)] {
			names[:cap(names)][k] = "written"
		}
	}
	clear(l[:cap(l)])
}

// The section Rules: results share no memory with arguments or with one another, and no state is kept.
func TestOwnMemory(t *testing.T) {
	shared := []string{"p", "q"}
	build := func() api.Types {
		x := plain()
		x.Nodes[2].Attrs = []api.Attr{names("u", shared...), names("v", shared...)}
		return x
	}
	x := build()
	for range 2 {
		l, _ := types.Attrs(x, 3)
		again, _ := types.Attrs(x, 3)
		l[1].Names[0] = "written"
		if l[2].Names[0] != "p" || again[1].Names[0] != "p" {
			t.Errorf("Attrs shares the names of attributes")
		}
		write(l)
		write(again)
		for a := range x.Nodes {
			up, _ := types.Ancestors(x, a)
			down, _ := types.Below(x, a)
			clear(up[:cap(up)])
			clear(down[:cap(down)])
		}
		if !reflect.DeepEqual(x, build()) {
			t.Errorf("what is written to results changes the type graph: %v", x)
		}
		expectTypes(t, x, 3, []int{0, 2, 3}, []int{3})
		expectAttrs(t, x, 2, number("a", 0, 9), names("u", "p", "q"), names("v", "p", "q"))
	}
}

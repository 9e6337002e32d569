package morphism_test

import (
	"math"
	"reflect"
	"slices"
	"strconv"
	"testing"

	"scarfjoint/api"
	"scarfjoint/morphism"
)

// arguments are two graphs, and a morphism from one to the other.
type arguments struct {
	a, b api.Graph
	m    api.Morphism
}

// right returns arguments without an error.
func right() arguments {
	return arguments{source(), target(), to([]int{3, 0, 2, 0}, 4, 4, 2, 0, 1, 6)}
}

// fault makes arguments wrong.
type fault struct {
	about string
	want  api.Errno
	do    func(x *arguments)
}

// faults returns the errors of a morphism in their order. Those of one list of images follow one another by their places in it.
func faults() []fault {
	return []fault{
		{"too many nodes of a", api.ErrTooLarge, func(x *arguments) { x.a.Nodes = append(x.a.Nodes, make([]int, 37)...) }},
		{"too many edges of a", api.ErrTooLarge, func(x *arguments) { x.a.Edges = append(x.a.Edges, make([]api.Edge, 75)...) }},
		{"the type of a node of a", api.ErrRange, func(x *arguments) { x.a.Nodes[3] = 100 }},
		{"the type of an edge of a", api.ErrRange, func(x *arguments) { x.a.Edges[1].Type = -1 }},
		{"an end of an edge of a", api.ErrRange, func(x *arguments) { x.a.Edges[4].To = 41 }},
		{"too many nodes of b", api.ErrTooLarge, func(x *arguments) { x.b.Nodes = append(x.b.Nodes, make([]int, 37)...) }},
		{"too many edges of b", api.ErrTooLarge, func(x *arguments) { x.b.Edges = append(x.b.Edges, make([]api.Edge, 74)...) }},
		{"the type of a node of b", api.ErrRange, func(x *arguments) { x.b.Nodes[2] = -1 }},
		{"an end of an edge of b", api.ErrRange, func(x *arguments) { x.b.Edges[5].From = 41 }},
		{"more nodes", api.ErrArity, func(x *arguments) { x.m.Nodes = append(x.m.Nodes, 0) }},
		{"more edges", api.ErrArity, func(x *arguments) { x.m.Edges = append(x.m.Edges, 0) }},
		{"the image of the node 0 is missing", api.ErrRange, func(x *arguments) { x.m.Nodes[0] = 4 }},
		{"the image of the node 1 has another type", api.ErrType, func(x *arguments) { x.m.Nodes[1] = 3 }},
		{"the image of the node 2 is missing", api.ErrRange, func(x *arguments) { x.m.Nodes[2] = -1 }},
		{"the image of the node 3 has another type", api.ErrType, func(x *arguments) { x.m.Nodes[3] = 1 }},
		{"the image of the edge 0 has another source", api.ErrConflict, func(x *arguments) { x.m.Edges[0] = 1 }},
		{"the image of the edge 1 is missing", api.ErrRange, func(x *arguments) { x.m.Edges[1] = 7 }},
		{"the image of the edge 2 has another type", api.ErrType, func(x *arguments) { x.m.Edges[2] = 0 }},
		{"the image of the edge 3 has another source", api.ErrConflict, func(x *arguments) { x.m.Edges[3] = 6 }},
		{"the image of the edge 4 is missing", api.ErrRange, func(x *arguments) { x.m.Edges[4] = -1 }},
		{"the image of the edge 5 has another type", api.ErrType, func(x *arguments) { x.m.Edges[5] = 5 }},
	}
}

// outside returns numbers that are not from 0 to n - 1.
func outside(n int) []int {
	return []int{math.MinInt, -100, -2, -1, n, n + 1, n + 100, math.MaxInt}
}

// expectError expects an error, and that every other result of the call is its zero value, or an empty list.
func expectError(t *testing.T, about string, want, got api.Errno, results ...any) {
	t.Helper()
	if got != want {
		t.Errorf("%s: the error is %d, want %d", about, got, want)
	}
	for i, x := range results {
		if v := reflect.ValueOf(x); !v.IsZero() && !(v.Kind() == reflect.Slice && v.Len() == 0) {
			t.Errorf("%s: the result %d with an error is %v", about, i, x)
		}
	}
}

// expectWrong expects that all functions have the error of a morphism.
func expectWrong(t *testing.T, about string, x arguments, want api.Errno) {
	t.Helper()
	expectError(t, about+", Valid", want, morphism.Valid(x.a, x.b, x.m))
	if morphism.Injective(x.a, x.b, x.m) {
		t.Errorf("%s: injective", about)
	}
	if morphism.Surjective(x.a, x.b, x.m) {
		t.Errorf("%s: surjective", about)
	}
	m, e := morphism.Inverse(x.a, x.b, x.m)
	expectError(t, about+", Inverse", want, e, m)
	for _, c := range []arguments{{x.b, x.b, to(count(0, len(x.b.Nodes)), count(0, len(x.b.Edges))...)}, {x.b, alike(41, 0), to(nil)}, {x.b, x.b, to(nil, -1)}} {
		m, e := morphism.Compose(x.a, x.b, c.b, x.m, c.m)
		expectError(t, about+", Compose with it first", want, e, m)
	}
	if identity, e := morphism.Identity(x.a); e == api.OK {
		m, e := morphism.Compose(x.a, x.a, x.b, identity, x.m)
		expectError(t, about+", Compose with it second", want, e, m)
	}
}

// P6.1: the errors of a morphism, each one alone and each two together.
func TestErrors(t *testing.T) {
	all := faults()
	for i, first := range all {
		x := right()
		first.do(&x)
		expectWrong(t, first.about, x, first.want)
		for _, second := range all[i+1:] {
			x := right()
			second.do(&x)
			first.do(&x)
			expectWrong(t, first.about+" and "+second.about, x, first.want)
		}
	}
}

// P6.1: in the list of nodes and in that of edges, the first element with an error decides.
func TestErrorsOfElements(t *testing.T) {
	a, b := build([]int{1, 1, 1}, slices.Repeat([]api.Edge{{Type: 3, From: 0, To: 1}}, 3)...), build([]int{1, 2, 1},
		api.Edge{Type: 3, From: 0, To: 2}, api.Edge{Type: 4, From: 0, To: 2}, api.Edge{Type: 3, From: 2, To: 0}, api.Edge{Type: 3, From: 0, To: 0}, api.Edge{Type: 4, From: 2, To: 2})
	for i, c := range []struct {
		m    api.Morphism
		want api.Errno
	}{
		{to([]int{0, 2, 0}, 0, 0, 0), api.OK},
		{to([]int{1, 3, 0}, 0, 0, 0), api.ErrType},
		{to([]int{3, 1, 0}, 0, 0, 0), api.ErrRange},
		{to([]int{0, 1, -1}, 0, 0, 0), api.ErrType},
		{to([]int{0, -1, 1}, 0, 0, 0), api.ErrRange},
		{to([]int{0, 2, 1}, 9, 0, 0), api.ErrType},
		{to([]int{0, 2, 9}, 2, 0, 0), api.ErrRange},
		{to([]int{0, 2, 0}, 2, 9, 1), api.ErrConflict},
		{to([]int{0, 2, 0}, 3, 1, 9), api.ErrConflict},
		{to([]int{0, 2, 0}, 1, 9, 2), api.ErrType},
		{to([]int{0, 2, 0}, 9, 1, 2), api.ErrRange},
		{to([]int{0, 2, 0}, 0, 2, 1), api.ErrConflict},
		{to([]int{0, 2, 0}, 0, 1, 2), api.ErrType},
		{to([]int{0, 2, 0}, 0, -1, 2), api.ErrRange},
		{to([]int{0, 2, 0}, 4, 0, 0), api.ErrType},
		{to([]int{2, 0, 0}, 0, 2, 2), api.ErrConflict},
		{to([]int{2, 0, 0}, 2, 2, 2), api.OK},
		{to([]int{2, 2, 0}, 4, 2, 2), api.ErrType},
		{to([]int{0, 0, 0}, 3, 3, 0), api.ErrConflict},
	} {
		if c.want == api.OK {
			expectError(t, "Valid "+strconv.Itoa(i), api.OK, morphism.Valid(a, b, c.m))
		} else {
			expectWrong(t, "the morphism "+strconv.Itoa(i), arguments{a, b, c.m}, c.want)
		}
	}
}

// P6.1: images of all elements that are out of range, and too few or too many of them.
func TestImages(t *testing.T) {
	for i := range right().m.Nodes {
		for _, image := range outside(4) {
			x := right()
			x.m.Nodes[i] = image
			expectWrong(t, "the image "+strconv.Itoa(image)+" of the node "+strconv.Itoa(i), x, api.ErrRange)
		}
	}
	for i := range right().m.Edges {
		for _, image := range outside(7) {
			x := right()
			x.m.Edges[i] = image
			expectWrong(t, "the image "+strconv.Itoa(image)+" of the edge "+strconv.Itoa(i), x, api.ErrRange)
		}
	}
	m := right().m
	for i, n := range []api.Morphism{
		{},
		to(m.Nodes),
		to(nil, m.Edges...),
		to(m.Nodes[:3], m.Edges...),
		to(m.Nodes, m.Edges[:5]...),
		to(append(m.Nodes, 0), m.Edges...),
		to(m.Nodes, append(m.Edges, 0)...),
		to(m.Edges, m.Nodes...),
		to(make([]int, 1000), make([]int, 1000)...),
		to([]int{-1, -1, -1}, -1),
	} {
		expectWrong(t, "the lengths "+strconv.Itoa(i), arguments{source(), target(), n}, api.ErrArity)
	}
	expectWrong(t, "a node of the empty graph", arguments{api.Graph{}, loop(), to([]int{0})}, api.ErrArity)
	expectWrong(t, "an edge of the empty graph", arguments{api.Graph{}, loop(), to(nil, 0)}, api.ErrArity)
	expectWrong(t, "no image in the empty graph", arguments{loop(), api.Graph{}, to([]int{0}, 0)}, api.ErrRange)
}

// P6.1: Identity and All: the errors of graphs, of a before those of b.
func TestErrorsOfGraphs(t *testing.T) {
	wrong := map[string]arguments{}
	for _, f := range faults()[:9] {
		x := right()
		f.do(&x)
		wrong[f.about] = x
		l, e := morphism.All(x.a, x.b)
		expectError(t, "All with "+f.about, f.want, e, l)
	}
	for about, want := range map[string]api.Errno{"too many nodes of a": api.ErrTooLarge, "too many edges of a": api.ErrTooLarge, "the type of a node of a": api.ErrRange, "the type of an edge of a": api.ErrRange, "an end of an edge of a": api.ErrRange} {
		m, e := morphism.Identity(wrong[about].a)
		expectError(t, "Identity with "+about, want, e, m)
	}
	large, wrongType := alike(41, 0), build([]int{100})
	for i, c := range []struct {
		a, b api.Graph
		want api.Errno
	}{
		{large, wrongType, api.ErrTooLarge},
		{wrongType, large, api.ErrRange},
		{large, alike(40, 0), api.ErrTooLarge},
		{alike(40, 0), wrongType, api.ErrRange},
		{wrongType, alike(40, 0), api.ErrRange},
		{alike(0, 81), alike(1, 0), api.ErrTooLarge},
		{alike(0, 1), alike(1, 0), api.ErrRange},
		{alike(1, 0), alike(0, 1), api.ErrRange},
		{api.Graph{}, alike(0, 1), api.ErrRange},
		{alike(40, 0), alike(40, 0), api.ErrTooLarge},
	} {
		l, e := morphism.All(c.a, c.b)
		expectError(t, "All "+strconv.Itoa(i), c.want, e, l)
	}
}

// P6.1: Compose: all errors of m come before those of n.
func TestErrorsOfBoth(t *testing.T) {
	a, b, m := arrow(), directed(3, [2]int{0, 1}, [2]int{1, 2}), to([]int{1, 2}, 1)
	for i, c := range []struct {
		m    api.Morphism
		c    api.Graph
		n    api.Morphism
		want api.Errno
	}{
		{m, loop(), to([]int{0, 0, 0}, 0, 0), api.OK},
		{m, loop(), m, api.ErrArity},
		{m, loop(), to([]int{0, 0, 1}, 0, 0), api.ErrRange},
		{m, build([]int{0, 1}, api.Edge{}), to([]int{0, 0, 1}, 0, 0), api.ErrType},
		{m, b, to([]int{0, 1, 2}, 1, 0), api.ErrConflict},
		{m, alike(41, 0), to([]int{0, 0, 0}, 0, 0), api.ErrTooLarge},
		{m, build([]int{0}, api.Edge{Type: 100}), to([]int{0, 0, 0}, 0, 0), api.ErrRange},
		{to([]int{1, 2}, 0), alike(41, 0), to(nil), api.ErrConflict},
		{to([]int{1, 2}, 0), loop(), m, api.ErrConflict},
		{to([]int{1}, 0), loop(), to([]int{0, 0, 1}, 0, 0), api.ErrArity},
		{to([]int{1, 3}, 0), loop(), m, api.ErrRange},
	} {
		got, e := morphism.Compose(a, b, c.c, c.m, c.n)
		if c.want == api.OK {
			got = api.Morphism{}
		}
		expectError(t, "Compose "+strconv.Itoa(i), c.want, e, got)
	}
}

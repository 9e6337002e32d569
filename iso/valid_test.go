package iso_test

import (
	"math"
	"reflect"
	"slices"
	"testing"

	"scarfjoint/api"
	"scarfjoint/iso"
)

// expectError expects an error, and that every other result of the call is its zero value, or an empty list.
func expectError(t *testing.T, about string, want, got api.Errno, results ...any) {
	t.Helper()
	if got != want {
		t.Errorf("%s: the error is %d, want %d", about, got, want)
	}
	for i, x := range results {
		if v := reflect.ValueOf(x); !v.IsZero() && !(v.Kind() == reflect.Slice && v.Len() == 0) {
			t.Errorf("%s: the result %d with an error is %v", about, i, x)
		}
	}
}

// fault is a graph with an error.
type fault struct {
	about string
	want  api.Errno
	g     api.Graph
}

// faults returns graphs with each error of layer 5, and with several.
func faults() []fault {
	many := slices.Repeat([]api.Edge{{}}, 81)
	return []fault{
		{"too many nodes", api.ErrTooLarge, directed(41)},
		{"too many edges", api.ErrTooLarge, build([]int{0}, many...)},
		{"too many nodes, and a wrong type", api.ErrTooLarge, build(append(make([]int, 40), -1))},
		{"too many edges, and a wrong type", api.ErrTooLarge, build([]int{100}, many...)},
		{"too many edges and no nodes", api.ErrTooLarge, build(nil, many...)},
		{"a type of a node", api.ErrRange, build([]int{0, 100})},
		{"a negative type of a node", api.ErrRange, build([]int{-1, 0})},
		{"the least type of a node", api.ErrRange, build([]int{math.MinInt})},
		{"a type of an edge", api.ErrRange, build([]int{0}, api.Edge{}, api.Edge{Type: 100})},
		{"a negative type of an edge", api.ErrRange, build([]int{0}, api.Edge{Type: -1})},
		{"a source", api.ErrRange, build([]int{0}, api.Edge{From: 1})},
		{"a negative source", api.ErrRange, build([]int{0}, api.Edge{From: -1})},
		{"a target", api.ErrRange, build([]int{0}, api.Edge{To: math.MaxInt})},
		{"an edge without nodes", api.ErrRange, build(nil, api.Edge{})},
		{"13 nodes, and a wrong type", api.ErrRange, build(append(make([]int, 12), 100))},
	}
}

// expectWrong expects that all functions of two graphs have an error.
func expectWrong(t *testing.T, about string, want api.Errno, a, b api.Graph) {
	t.Helper()
	m, e := iso.Find(a, b)
	expectError(t, about+", Find", want, e, m)
	l, e := iso.All(a, b)
	expectError(t, about+", All", want, e, l)
	d, e := iso.Reason(a, b)
	expectError(t, about+", Reason", want, e, d)
	for _, first := range []int{0, 1, len(a.Nodes)} {
		for _, second := range []int{0, 1, len(b.Nodes)} {
			if iso.CheckReason(a, b, api.Differ{Colour: []int{0}, First: first, Second: second}) {
				t.Errorf("%s: %d and %d nodes of the type 0 are right", about, first, second)
			}
		}
	}
}

// P8.1: the errors of graphs, those of a before those of b, and before what else a call could return.
func TestErrors(t *testing.T) {
	for _, f := range faults() {
		l, e := iso.Refine(f.g)
		expectError(t, f.about+", Refine", f.want, e, l)
		l, e = iso.Orbits(f.g)
		expectError(t, f.about+", Orbits", f.want, e, l)
		for _, g := range []api.Graph{{}, path(), directed(40)} {
			expectWrong(t, f.about+" of a", f.want, f.g, g)
			expectWrong(t, f.about+" of b", f.want, g, f.g)
		}
		for _, second := range faults() {
			expectWrong(t, f.about+" of a, "+second.about+" of b", f.want, f.g, second.g)
		}
	}
}

// P8.1: at the bounds of graphs there is no error.
func TestBounds(t *testing.T) {
	largest := build(slices.Repeat([]int{99}, 40), slices.Repeat([]api.Edge{{Type: 99, From: 39, To: 39}}, 80)...)
	expectColours(t, largest, append(make([]int, 39), 1)...)
	m, e := iso.Find(largest, largest)
	if !sameMap(m, to(count(0, 40), count(0, 80)...)) || e != api.OK {
		t.Errorf("Find of the largest graph = %v, %d", m, e)
	}
	expectNoReason(t, largest, largest)
	expectReason(t, largest, directed(40), api.Differ{Colour: []int{0}, Second: 40})
}

// P8.1: Orbits: 12 nodes are not too many, and 13 are, with any edges.
func TestManyNodes(t *testing.T) {
	for n := range 41 {
		for _, g := range []api.Graph{directed(n), build(count(0, n)), directed(n, cycle(0, n)...)} {
			l, e := iso.Orbits(g)
			if n > 12 {
				expectError(t, "Orbits of many nodes", api.ErrTooLarge, e, l)
			} else if len(l) != n || e != api.OK {
				t.Errorf("Orbits(%v) = %v, %d", g, l, e)
			}
		}
	}
	if l, e := iso.Orbits(build(make([]int, 12), slices.Repeat([]api.Edge{{Type: 1, From: 11}}, 80)...)); !slices.Equal(l, []int{0, 1, 1, 1, 1, 1, 1, 1, 1, 1, 1, 11}) || e != api.OK {
		t.Errorf("Orbits of 12 nodes and 80 edges = %v, %d", l, e)
	}
}

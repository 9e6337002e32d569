// Package calls tests what holds for the functions of all layers: it has no program of its own.
package calls

import (
	"math"
	"reflect"
	"testing"
)

// source makes arguments from a sequence of numbers that is the same in every run.
type source uint64

// below returns the next number from 0 to n - 1.
func (s *source) below(n int) int {
	*s = *s*6364136223846793005 + 1442695040888963407
	return int(uint64(*s)>>33) % n
}

// number returns a number that some layer may not expect.
func (s *source) number() int {
	return []int{math.MinInt, -1000001, -1, 0, 0, 1, 1, 2, 3, 40, 81, 1000001, math.MaxInt}[s.below(13)]
}

// text returns a text that some layer may not expect.
func (s *source) text() string {
	return []string{"", " ", "\n", "a", "a:b;", "node a : Node ;", "-1", "007", "\"", "\"a\" -> { } #", "\xff\x00", "edge (", "types x"}[s.below(13)]
}

// fill sets a value; the lists in it are empty below a depth.
func (s *source) fill(v reflect.Value, depth int) {
	switch v.Kind() {
	case reflect.Int:
		v.SetInt(int64(s.number()))
	case reflect.Bool:
		v.SetBool(s.below(2) == 1)
	case reflect.String:
		v.SetString(s.text())
	case reflect.Slice:
		n := 0
		if depth > 0 {
			n = s.below(4)
		}
		v.Set(reflect.MakeSlice(v.Type(), n, n))
		for i := range n {
			s.fill(v.Index(i), depth-1)
		}
	case reflect.Array:
		for i := range v.Len() {
			s.fill(v.Index(i), depth-1)
		}
	case reflect.Struct:
		for i := range v.NumField() {
			s.fill(v.Field(i), depth)
		}
	default:
		panic("no values of " + v.Type().String())
	}
}

// arguments returns arguments of a function; for the seed 0 they are zero values.
func arguments(f reflect.Type, seed int) []reflect.Value {
	s := source(seed)
	var l []reflect.Value
	for i := range f.NumIn() {
		v := reflect.New(f.In(i)).Elem()
		if seed > 0 {
			s.fill(v, 3)
		}
		l = append(l, v)
	}
	return l
}

// values returns what reflected values stand for.
func values(l []reflect.Value) []any {
	var out []any
	for _, v := range l {
		out = append(out, v.Interface())
	}
	return out
}

// perform calls a function and returns its results; it reports a panic.
func perform(t *testing.T, c call, seed int, l []reflect.Value) (results []any) {
	defer func() {
		if p := recover(); p != nil {
			t.Errorf("P1: %s with the arguments %d, %#v, panics: %v", c.name, seed, values(l), p)
		}
	}()
	return values(reflect.ValueOf(c.do).Call(l))
}

// P1 and the section Rules: no function panics or changes its arguments, and equal arguments lead to equal results.
func TestAnyArguments(t *testing.T) {
	for _, c := range all {
		f := reflect.TypeOf(c.do)
		for seed := range 40 {
			l, same := arguments(f, seed), arguments(f, seed)
			first := perform(t, c, seed, l)
			if !reflect.DeepEqual(values(l), values(same)) {
				t.Errorf("%s changes its arguments %d: %#v became %#v", c.name, seed, values(same), values(l))
			}
			if second := perform(t, c, seed, same); !reflect.DeepEqual(first, second) {
				t.Errorf("%s returns different results for the arguments %d", c.name, seed)
			}
		}
	}
}

// DOC.md: the chapters list 332 functions in 60 layers, each of them once.
func TestAllAreListed(t *testing.T) {
	names := map[string]bool{}
	for _, c := range all {
		names[c.name] = true
	}
	if len(all) != 332 || len(names) != 332 {
		t.Errorf("%d functions with %d names", len(all), len(names))
	}
}

package layout_test

import (
	"slices"
	"testing"

	"runaround/api"
	"runaround/layout"
	"runaround/script"
	"runaround/tree"
)

// shape is all that a tree tells of a place.
type shape struct {
	box                  api.Box
	parent, end, context int
}

// shapes gives all that a tree tells.
func shapes(x *tree.Tree) []shape {
	var l []shape
	for at := range x.Len() {
		l = append(l, shape{box: x.Box(at), parent: x.Parent(at), end: x.End(at), context: x.Context(at)})
	}
	return l
}

// copied gives a geometry that shares nothing with another one.
func copied(g layout.Geometry) layout.Geometry {
	return geometry(slices.Clone(g.Boxes), slices.Clone(g.Lines)...)
}

// spoil changes all that a geometry has, and what lies behind the ends of its lists.
func spoil(g layout.Geometry) {
	boxes, lines := g.Boxes[:cap(g.Boxes)], g.Lines[:cap(g.Lines)]
	for i := range boxes {
		boxes[i] = box(-7, -7, -7, -7)
	}
	for i := range lines {
		lines[i] = lineOf(-7, box(-7, -7, -7, -7), -7, -7)
	}
}

// K5, K6: a tree that is asked twice answers alike, in new memory, and stays as it is.
func TestTreeAskedTwice(t *testing.T) {
	for seed := range 300 {
		c := chosen(seed)
		x := built(t, c.list(2+c.to(40)))
		told := shapes(x)
		one, _ := layout.Of(x)
		want := copied(one)
		other, e := layout.Of(x)
		if !same(other, want) || e != api.OK {
			t.Fatalf("%v: %v, %v, not %v", boxesOf(x), other, e, want)
		}
		spoil(other)
		if !same(one, want) || !slices.Equal(shapes(x), told) {
			t.Fatalf("%v: %v, not %v; %v", boxesOf(x), one, want, told)
		}
		if again, _ := layout.Of(x); !same(again, want) {
			t.Fatalf("%v: %v, not %v", boxesOf(x), again, want)
		}
	}
}

// K5, K6: a script that is asked twice answers alike, whether it is refused or not, and stays as it is; what becomes of it
// afterwards changes no answer.
func TestScriptAskedTwice(t *testing.T) {
	refused := 0
	for seed := range 600 {
		c := chosen(seed)
		numbers := script.Encode(c.list(2 + c.to(40)))
		if c.to(2) == 0 {
			numbers[c.to(len(numbers))] = -2
		}
		told := slices.Clone(numbers)
		want, at, e := layout.Layout(numbers[:len(numbers):len(numbers)])
		kept := copied(want)
		other, otherAt, otherE := layout.Layout(numbers)
		if !same(other, want) || otherAt != at || otherE != e || !slices.Equal(numbers, told) {
			t.Fatalf("%v, %v: %v, %v, %v, not %v, %v, %v", told, numbers, other, otherAt, otherE, want, at, e)
		}
		spoil(other)
		clear(numbers)
		if !same(want, kept) {
			t.Fatalf("%v: %v, not %v", told, want, kept)
		}
		if again, againAt, againE := layout.Layout(told); !same(again, want) || againAt != at || againE != e {
			t.Fatalf("%v: %v, %v, %v, not %v, %v, %v", told, again, againAt, againE, want, at, e)
		}
		if e != api.OK {
			refused++
		}
	}
	if refused < 100 || refused > 500 {
		t.Error(refused)
	}
}

// K5, K6: a geometry that is asked twice for its bounds answers alike, and stays as it is.
func TestBoundsAskedTwice(t *testing.T) {
	for seed := range 300 {
		c := chosen(seed)
		g, _ := layout.Of(built(t, c.list(2+c.to(40))))
		g.Boxes = append(g.Boxes, hollow()...)
		slices.Reverse(g.Boxes)
		told := copied(g)
		want, wantOK := g.Bounds()
		got, ok := g.Bounds()
		if got != want || ok != wantOK || !same(g, told) {
			t.Fatalf("%v, %v, not %v, %v; %v, not %v", got, ok, want, wantOK, g, told)
		}
	}
}

// K6: trees that are asked in turn have nothing to do with each other, nor with scripts that are refused between.
func TestTreesStandApart(t *testing.T) {
	c := chosen(3)
	one, other := built(t, c.list(40)), built(t, c.list(40))
	first, second := keeps(t, one), keeps(t, other)
	for range 5 {
		got, _ := layout.Of(one)
		refuses(t, []int{1}, -1, api.ErrShort)
		next, _ := layout.Of(other)
		refuses(t, script.Encode([]api.Box{one.Box(0), one.Box(0)}), 1, api.ErrNest)
		if !same(got, first) || !same(next, second) {
			t.Fatal("another answer, asked in turn")
		}
	}
}

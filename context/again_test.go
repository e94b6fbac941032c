package context_test

import (
	"slices"
	"testing"

	"runaround/api"
	"runaround/context"
	"runaround/flow"
	"runaround/line"
	"runaround/rect"
	"runaround/tree"
)

// shape is all that a tree tells of a place.
type shape struct {
	box                  api.Box
	parent, end, context int
}

// shapes gives all that a tree tells.
func shapes(x *tree.Tree) []shape {
	var l []shape
	for at := range x.Len() {
		l = append(l, shape{box: x.Box(at), parent: x.Parent(at), end: x.End(at), context: x.Context(at)})
	}
	return l
}

// copied gives a Result that shares nothing with another one.
func copied(r context.Result) context.Result {
	c := context.Result{Frames: slices.Clone(r.Frames), Heights: slices.Clone(r.Heights)}
	for _, out := range r.Outputs {
		c.Outputs = append(c.Outputs, flow.Output{Boxes: slices.Clone(out.Boxes), Lines: slices.Clone(out.Lines), Height: out.Height})
	}
	return c
}

// spoil changes all that a Result has, and what lies behind the ends of its lists.
func spoil(r context.Result) {
	for _, out := range r.Outputs {
		boxes, lines := out.Boxes[:cap(out.Boxes)], out.Lines[:cap(out.Lines)]
		for i := range boxes {
			boxes[i] = placed(-7, -7, -7, -7, -7)
		}
		for i := range lines {
			lines[i] = flow.Line{At: -7, Line: line.Line{Atoms: -7}}
		}
	}
	for i := range r.Heights[:cap(r.Heights)] {
		r.Heights[:cap(r.Heights)][i] = -7
	}
	for i := range r.Frames[:cap(r.Frames)] {
		r.Frames[:cap(r.Frames)][i] = rect.Span{From: -7, To: -7}
	}
	clear(r.Outputs)
}

// K5, K6: what is asked twice is answered alike, in new memory; and the tree and the Result stay as they are.
func TestAskedTwice(t *testing.T) {
	for seed := range 300 {
		c := chosen(seed)
		x := built(t, c.list(2+c.to(40)))
		told := shapes(x)
		one := context.All(x)
		want := copied(one)
		other := context.All(x)
		if !same(other, want) {
			t.Fatalf("%v: %v, not %v", boxesOf(x), other, want)
		}
		spoil(other)
		findsAll(t, x, one)
		findsAll(t, x, one)
		if !same(one, want) || !slices.Equal(shapes(x), told) {
			t.Fatalf("%v: %v, not %v; %v", boxesOf(x), one, want, told)
		}
		if again := context.All(x); !same(again, want) {
			t.Fatalf("%v: %v, not %v", boxesOf(x), again, want)
		}
	}
}

// K5: no two lists of one answer share what they have, nor what lies behind their ends.
func TestListsShareNothing(t *testing.T) {
	for seed := range 100 {
		c := chosen(seed)
		x := built(t, c.list(2+c.to(40)))
		want := context.All(x)
		for at := range x.Len() {
			r := context.All(x)
			spoil(context.Result{Outputs: []flow.Output{r.Outputs[at]}})
			r.Outputs[at] = want.Outputs[at]
			if !same(r, want) {
				t.Fatalf("%v, %d: %v, not %v", boxesOf(x), at, r, want)
			}
		}
	}
}

// K6: trees that are asked in turn have nothing to do with each other.
func TestTreesStandApart(t *testing.T) {
	c := chosen(3)
	one, other := built(t, c.list(40)), built(t, c.list(40))
	first, second := keeps(t, one), keeps(t, other)
	for range 5 {
		if !same(context.All(one), first) || !same(context.All(other), second) {
			t.Fatal("another answer, asked in turn")
		}
	}
	findsAll(t, one, first)
	findsAll(t, other, second)
}

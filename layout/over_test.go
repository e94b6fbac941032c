package layout

import (
	"testing"

	"runaround/api"
	"runaround/context"
	"runaround/flow"
	"runaround/line"
	"runaround/rect"
	"runaround/tree"
	"runaround/unit"
)

// No tree has numbers that go over, so these are contexts that are laid by hand.

// byHand gives a tree, and contexts of it in which all stands at 0: a Float with a Text, in that an Atom.
func byHand(t *testing.T) (*tree.Tree, context.Result) {
	t.Helper()
	x, at, e := tree.Build([]api.Box{
		{Kind: api.Root, Width: 0, Height: 0, Edges: [4]int{1, 2, 3, 4}},
		{Depth: 1, Kind: api.Float, Side: api.Left, Width: 0, Height: 0, Edges: [4]int{1, 0, 0, 2}},
		{Depth: 2, Kind: api.Text, Width: 0, Height: 0},
		{Depth: 3, Kind: api.Atom},
	})
	if e != api.OK {
		t.Fatal(at, e)
	}
	return x, context.Result{
		Frames:  make([]rect.Span, x.Len()),
		Heights: make([]int, x.Len()),
		Outputs: []flow.Output{
			{Boxes: []flow.Placed{{At: 1}}},
			{Boxes: []flow.Placed{{At: 2}, {At: 3}}, Lines: []flow.Line{{At: 2, Line: line.Line{Atoms: 1}}}},
			{}, {},
		},
	}
}

// P19.1: just what may not be goes over: the last number that may be is answered, the next one is refused, with nothing
// beside; at both ends, of each number of a box and of a line.
func TestWhatGoesOver(t *testing.T) {
	const most = unit.Most - 1
	for i, x := range []struct {
		of    func(r *context.Result) *int
		moved int // what it is moved by, or what is added to it
	}{
		{func(r *context.Result) *int { return &r.Frames[0].To }, 6},
		{func(r *context.Result) *int { return &r.Heights[0] }, 4},
		{func(r *context.Result) *int { return &r.Outputs[0].Boxes[0].Box.Left }, 6},
		{func(r *context.Result) *int { return &r.Outputs[0].Boxes[0].Box.Top }, 2},
		{func(r *context.Result) *int { return &r.Outputs[0].Boxes[0].Box.Right }, 4},
		{func(r *context.Result) *int { return &r.Outputs[0].Boxes[0].Box.Bottom }, 1},
		{func(r *context.Result) *int { return &r.Outputs[1].Boxes[1].Box.Left }, 6},
		{func(r *context.Result) *int { return &r.Outputs[1].Boxes[1].Box.Top }, 2},
		{func(r *context.Result) *int { return &r.Outputs[1].Boxes[1].Box.Right }, 6},
		{func(r *context.Result) *int { return &r.Outputs[1].Boxes[1].Box.Bottom }, 2},
		{func(r *context.Result) *int { return &r.Outputs[1].Lines[0].Line.Box.Left }, 6},
		{func(r *context.Result) *int { return &r.Outputs[1].Lines[0].Line.Box.Top }, 2},
		{func(r *context.Result) *int { return &r.Outputs[1].Lines[0].Line.Box.Right }, 6},
		{func(r *context.Result) *int { return &r.Outputs[1].Lines[0].Line.Box.Bottom }, 2},
	} {
		tree, r := byHand(t)
		n := x.of(&r)
		for _, may := range []int{most - x.moved, 0, -most} {
			*n = may
			if g, e := moved(tree, r); len(g.Boxes) != 4 || len(g.Lines) != 1 || e != api.OK {
				t.Errorf("%d, %d: %v, %v", i, may, g, e)
			}
		}
		for _, over := range []int{unit.Most - x.moved, unit.Most, 1 << 62, -unit.Most - x.moved, -1 << 62} {
			*n = over
			if g, e := moved(tree, r); g.Boxes != nil || g.Lines != nil || e != api.ErrOver {
				t.Errorf("%d, %d: %v, %v", i, over, g, e)
			}
		}
	}
}

// P19.1: what nothing goes over of is moved: the contexts made by hand are where their boxes' edges have them.
func TestMovedByHand(t *testing.T) {
	tree, r := byHand(t)
	g, e := moved(tree, r)
	at := func(x, y int) api.Rect { return api.Rect{Left: x, Top: y, Right: x, Bottom: y} }
	if g.Boxes[0] != (api.Rect{Right: 6, Bottom: 4}) || g.Boxes[1] != at(4, 1) || g.Boxes[2] != at(6, 2) || g.Boxes[3] != at(6, 2) || e != api.OK {
		t.Error(g, e)
	}
	if len(g.Lines) != 1 || g.Lines[0] != (Line{At: 2, Box: at(6, 2), First: 3, Atoms: 1}) {
		t.Error(g.Lines)
	}
}

package layout_test

import (
	"slices"
	"testing"

	"runaround/api"
	"runaround/layout"
	"runaround/script"
	"runaround/tree"
)

// block gives a Block as wide as its content around lets it be.
func block(depth, height int) api.Box {
	return api.Box{Depth: depth, Kind: api.Block, Width: api.Auto, Height: height}
}

// root gives a Root as wide as its content around lets it be.
func root(depth, height int) api.Box {
	return api.Box{Depth: depth, Kind: api.Root, Width: api.Auto, Height: height}
}

// text gives a Text as wide as its content around lets it be.
func text(depth int) api.Box {
	return api.Box{Depth: depth, Kind: api.Text, Width: api.Auto, Height: api.Auto}
}

// atom gives an Atom.
func atom(depth, wide, height int) api.Box {
	return api.Box{Depth: depth, Kind: api.Atom, Width: wide, Height: height}
}

// float gives a Float at a side.
func float(depth, side, wide, height int) api.Box {
	return api.Box{Depth: depth, Kind: api.Float, Side: side, Width: wide, Height: height}
}

// sides gives margins, or edges, all round.
func sides(top, right, bottom, left int) [4]int { return [4]int{top, right, bottom, left} }

// framed gives a box with margins and edges.
func framed(b api.Box, margins, edges [4]int) api.Box {
	b.Margins, b.Edges = margins, edges
	return b
}

// page gives a first box with edges, 40 wide, and others that stand in it.
func page(edges [4]int, l ...api.Box) []api.Box {
	return append([]api.Box{{Kind: api.Root, Width: 40, Height: api.Auto, Edges: edges}}, l...)
}

// box gives a rectangle.
func box(left, top, right, bottom int) api.Rect {
	return api.Rect{Left: left, Top: top, Right: right, Bottom: bottom}
}

// lineOf gives a line of a Text.
func lineOf(at int, box api.Rect, first, atoms int) layout.Line {
	return layout.Line{At: at, Box: box, First: first, Atoms: atoms}
}

// geometry gives a geometry.
func geometry(boxes []api.Rect, lines ...layout.Line) layout.Geometry {
	return layout.Geometry{Boxes: boxes, Lines: lines}
}

// same tells whether two geometries are alike.
func same(a, b layout.Geometry) bool {
	return slices.Equal(a.Boxes, b.Boxes) && slices.Equal(a.Lines, b.Lines)
}

// nothing tells whether a geometry has nothing.
func nothing(g layout.Geometry) bool { return len(g.Boxes) == 0 && len(g.Lines) == 0 }

// built gives the tree of boxes.
func built(t *testing.T, l []api.Box) *tree.Tree {
	t.Helper()
	x, at, e := tree.Build(l)
	if e != api.OK {
		t.Fatal(l, at, e)
	}
	return x
}

// boxesOf gives all boxes of a tree.
func boxesOf(x *tree.Tree) []api.Box {
	var l []api.Box
	for at := range x.Len() {
		l = append(l, x.Box(at))
	}
	return l
}

// stands tells it if boxes, or their lines, aren't where they are told to be: of their tree, and of their script.
func stands(t *testing.T, l []api.Box, boxes []api.Rect, lines ...layout.Line) {
	t.Helper()
	want := geometry(boxes, lines...)
	g, e := layout.Of(built(t, l))
	if !same(g, want) || e != api.OK {
		t.Errorf("%v:\n%v, %v, not\n%v", l, g, e, want)
	}
	g, at, e := layout.Layout(script.Encode(l))
	if !same(g, want) || at != -1 || e != api.OK {
		t.Errorf("%v:\n%v, %v, %v, not\n%v", l, g, at, e, want)
	}
}

// P19.1, the chapter's example.
func TestExample(t *testing.T) {
	l := page(sides(1, 1, 1, 1), block(1, 5))
	l[0].Width = 9
	stands(t, l, []api.Rect{box(0, 0, 11, 7), box(1, 1, 10, 6)})
}

// P19.1: one Root alone is as great as its content and its edges, from 0, 0 on.
func TestOneRoot(t *testing.T) {
	for _, x := range []struct{ height, want int }{{api.Auto, 0}, {0, 0}, {7, 7}, {api.MaxSize, api.MaxSize}} {
		for _, wide := range []int{0, 9, api.MaxSize} {
			b := api.Box{Kind: api.Root, Width: wide, Height: x.height}
			stands(t, []api.Box{b}, []api.Rect{box(0, 0, wide, x.want)})
			b.Edges = sides(1, 20, 300, 4000)
			stands(t, []api.Box{b}, []api.Rect{box(0, 0, wide+4020, x.want+301)})
			b.Edges = sides(api.MaxSize, 0, 0, 0)
			stands(t, []api.Box{b}, []api.Rect{box(0, 0, wide, x.want+api.MaxSize)})
			b.Edges = sides(0, 0, 0, api.MaxSize)
			stands(t, []api.Box{b}, []api.Rect{box(0, 0, wide+api.MaxSize, x.want)})
		}
	}
}

// P19.1: the first box's own Height counts, whatever stands in it, and reaches out of it.
func TestHeightOfTheFirstBox(t *testing.T) {
	for _, x := range []struct{ height, bottom int }{{api.Auto, 15}, {0, 5}, {3, 8}, {10, 15}, {50, 55}} {
		l := page(sides(2, 0, 3, 0), block(1, 10))
		l[0].Height = x.height
		stands(t, l, []api.Rect{box(0, 0, 40, x.bottom), box(0, 2, 40, 12)})
		l[1] = float(1, api.Right, 50, 10)
		stands(t, l, []api.Rect{box(0, 0, 40, x.bottom), box(-10, 2, 40, 12)})
	}
}

// P19.1: a Float in a Float, and a Block in that, all with margins and edges on each side.
func TestFloatsInFloats(t *testing.T) {
	stands(t, page(sides(1, 2, 3, 4), // its content begins at 4, 1
		framed(float(1, api.Left, 20, api.Auto), sides(5, 6, 7, 8), sides(9, 10, 11, 12)), // its content at 24, 15
		framed(float(2, api.Right, 6, 3), sides(1, 2, 3, 4), sides(2, 1, 1, 3)),           // its content at 35, 18
		block(3, 1),
	), []api.Rect{box(0, 0, 46, 46), box(12, 6, 54, 36), box(32, 16, 42, 22), box(35, 18, 41, 19)})
}

// P19.1: a Root in a Block, and a Block in that, all with margins and edges on each side.
func TestRootsInBlocks(t *testing.T) {
	stands(t, page(sides(1, 2, 3, 4),
		framed(block(1, api.Auto), sides(5, 1, 0, 2), sides(1, 1, 1, 1)), // no context of its own
		framed(root(2, api.Auto), sides(2, 3, 4, 5), sides(1, 2, 3, 4)),  // its content begins at 16, 10
		framed(block(3, 5), sides(3, 0, 2, 0), sides(0, 0, 0, 0)),
	), []api.Rect{box(0, 0, 46, 31), box(6, 6, 43, 28), box(12, 9, 39, 23), box(16, 13, 37, 18)})
}

// P19.1: a Root beside a Float, and a Float beside it in the Root: each sees its own context alone.
func TestRootBesideAFloat(t *testing.T) {
	b := framed(root(1, api.Auto), sides(0, 0, 0, 0), sides(1, 1, 1, 1))
	b.Width = 20
	stands(t, page(sides(0, 0, 0, 5),
		float(1, api.Left, 6, 9), b, // its content begins at 12, 1
		float(2, api.Left, 3, 4), float(2, api.Right, 2, 1), block(2, 2),
	), []api.Rect{
		box(0, 0, 45, 9), box(5, 0, 11, 9), box(11, 0, 33, 6),
		box(12, 1, 15, 5), box(30, 1, 32, 2), box(12, 1, 32, 3),
	})
}

// P19.1: edges alone move a content: each of the four by itself, and margins by where the box is.
func TestEachSide(t *testing.T) {
	for i, x := range []struct{ outer, inner, block api.Rect }{
		{box(0, 0, 10, 10), box(0, 0, 10, 10), box(0, 7, 10, 10)}, // top
		{box(0, 0, 17, 3), box(0, 0, 17, 3), box(0, 0, 10, 3)},    // right
		{box(0, 0, 10, 10), box(0, 0, 10, 10), box(0, 0, 10, 3)},  // bottom
		{box(0, 0, 17, 3), box(0, 0, 17, 3), box(7, 0, 17, 3)},    // left
	} {
		edges := [4]int{}
		edges[i] = 7
		l := page([4]int{}, framed(float(1, api.Left, 10, api.Auto), [4]int{}, edges), block(2, 3))
		stands(t, l, []api.Rect{box(0, 0, 40, x.outer.Bottom), x.inner, x.block})
		l = []api.Box{{Kind: api.Root, Width: 10, Height: api.Auto, Edges: edges}, block(1, 3)}
		stands(t, l, []api.Rect{x.outer, x.block})
	}
	for i, x := range []api.Rect{
		box(0, 7, 10, 10), box(0, 0, 10, 3), box(0, 0, 10, 3), box(7, 0, 17, 3),
	} {
		margins := [4]int{}
		margins[i] = 7
		l := page([4]int{}, framed(float(1, api.Left, 10, api.Auto), margins, [4]int{}), block(2, 3))
		high := x.Bottom
		if i == 2 {
			high += 7
		}
		stands(t, l, []api.Rect{box(0, 0, 40, high), x, x})
	}
}

// P19.1: margins below 0 may take a Float, and all that stands in it, out of the first box, to numbers below 0.
func TestBelowNought(t *testing.T) {
	stands(t, page([4]int{},
		framed(float(1, api.Left, 10, api.Auto), sides(-20, 0, 0, -30), [4]int{}),
		framed(float(2, api.Left, 4, 2), sides(-1, 0, 0, -2), sides(1, 1, 1, 1)),
		block(3, 1),
		block(2, 6),
	), []api.Rect{
		box(0, 0, 40, 0), box(-30, -20, -20, -14), box(-32, -21, -26, -17), box(-31, -20, -27, -19), box(-30, -20, -20, -14),
	})
}

// P19.1: several contexts deep, Floats and Roots in turn, with Blocks between: each is moved by all that are around it.
func TestSeveralDeep(t *testing.T) {
	stands(t, page(sides(1, 0, 0, 1), // its content begins at 1, 1
		block(1, 2),
		framed(float(1, api.Right, 30, api.Auto), sides(0, 1, 0, 0), sides(2, 3, 0, 0)), // its content at 7, 5
		block(2, 1),
		block(2, api.Auto),
		framed(root(3, api.Auto), sides(1, 0, 0, 1), sides(1, 0, 0, 1)), // its content at 9, 8
		block(4, 4),
		framed(float(4, api.Left, 8, 3), sides(1, 1, 1, 1), sides(1, 1, 1, 1)), // its content at 11, 14
		framed(block(5, 1), sides(0, 0, 0, 2), [4]int{}),
		block(1, 3),
	), []api.Rect{
		box(0, 0, 41, 19),
		box(1, 1, 41, 3),
		box(7, 3, 40, 19), box(7, 5, 37, 6),
		box(7, 7, 37, 19), // the Root's margin, which adjoins its own, moves it, too
		box(8, 7, 37, 19), box(9, 8, 37, 12),
		box(10, 13, 20, 18), box(13, 14, 19, 15),
		box(1, 3, 41, 6),
	})
}

// P19.1: contexts side by side, in order, each with the same within: each is moved by its own box.
func TestSideBySide(t *testing.T) {
	l := page(sides(3, 0, 0, 2))
	want := []api.Rect{box(0, 0, 42, 13)}
	for i := range 8 {
		l = append(l, framed(float(1, api.Left, 8, 4), sides(0, 0, 0, 1), sides(0, 0, 1, 1)), framed(block(2, 1), sides(1, 0, 0, 1), [4]int{}))
		x, y := 2+i%4*10, 3+i/4*5
		want = append(want, box(x+1, y, x+10, y+5), box(x+3, y+1, x+10, y+2))
	}
	stands(t, l, want)
}

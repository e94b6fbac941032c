package flow_test

import (
	"slices"
	"testing"

	"runaround/api"
	"runaround/flow"
	"runaround/line"
	"runaround/rect"
	"runaround/tree"
	"runaround/width"
)

// flowingBox gives a box without a width of its own, as wide as its content around lets it be.
func flowingBox(depth, kind, above, below int) api.Box {
	return api.Box{Depth: depth, Kind: kind, Width: api.Auto, Height: api.Auto, Margins: [4]int{above, 0, below, 0}}
}

// block gives a Block with a margin above and one below.
func block(depth, above, below int) api.Box { return flowingBox(depth, api.Block, above, below) }

// text gives a Text with a margin above and one below.
func text(depth, above, below int) api.Box { return flowingBox(depth, api.Text, above, below) }

// atom gives an Atom.
func atom(depth, wide, height int) api.Box {
	return api.Box{Depth: depth, Kind: api.Atom, Width: wide, Height: height}
}

// float gives a Float without margins.
func float(depth, side, wide, height int) api.Box {
	return api.Box{Depth: depth, Kind: api.Float, Side: side, Width: wide, Height: height}
}

// root gives a Root with a margin above and one below.
func root(depth, wide, height, above, below int) api.Box {
	return api.Box{Depth: depth, Kind: api.Root, Width: wide, Height: height, Margins: [4]int{above, 0, below, 0}}
}

// clearing gives a box that clears something.
func clearing(clear int, b api.Box) api.Box {
	b.Clear = clear
	return b
}

// edged gives a box with an edge above and one below.
func edged(above, below int, b api.Box) api.Box {
	b.Edges[0], b.Edges[2] = above, below
	return b
}

// high gives a box of a Height.
func high(height int, b api.Box) api.Box {
	b.Height = height
	return b
}

// framed gives a box with margins and edges all round.
func framed(b api.Box, margins, edges [4]int) api.Box {
	b.Margins, b.Edges = margins, edges
	return b
}

// page gives a first box, 40 wide, and others that stand in it.
func page(l ...api.Box) []api.Box {
	return append([]api.Box{{Kind: api.Root, Width: 40, Height: api.Auto}}, l...)
}

// asked gives what is handed in of boxes, with heights of contents (of those that aren't told, 0).
func asked(t *testing.T, l []api.Box, heights ...int) flow.Input {
	t.Helper()
	x, at, e := tree.Build(l)
	if e != api.OK {
		t.Fatal(l, at, e)
	}
	return flow.Input{Tree: x, Frames: width.Frames(x), Heights: append(heights, make([]int, len(l)-len(heights))...)}
}

// boxesOf gives all boxes of a tree.
func boxesOf(x *tree.Tree) []api.Box {
	var l []api.Box
	for at := range x.Len() {
		l = append(l, x.Box(at))
	}
	return l
}

// answers tells it if a context isn't laid so; if it's laid otherwise when it's done again; or if what is handed in is
// changed by that, or kept.
func answers(t *testing.T, in flow.Input, at int, want flow.Output) {
	t.Helper()
	boxes, frames, heights := boxesOf(in.Tree), slices.Clone(in.Frames), slices.Clone(in.Heights)
	got := flow.Lay(in, at)
	if !same(got, want) {
		t.Errorf("%v, %v: the context of %d:\n%v, not\n%v", boxes, heights, at, got, want)
	}
	clear(got.Boxes)
	clear(got.Lines)
	if again := flow.Lay(in, at); !same(again, want) {
		t.Errorf("%v, %v: the context of %d, again: %v, not %v", boxes, heights, at, again, want)
	}
	if !slices.Equal(boxesOf(in.Tree), boxes) || !slices.Equal(in.Frames, frames) || !slices.Equal(in.Heights, heights) {
		t.Errorf("%v, not %v, %v, %v", in, boxes, frames, heights)
	}
}

// placed gives all boxes of the first one's context, where they are.
func placed(x *tree.Tree, boxes []api.Rect) []flow.Placed {
	var l []flow.Placed
	for i, at := range members(x, 0) {
		if i < len(boxes) {
			l = append(l, flow.Placed{At: at, Box: boxes[i]})
		}
	}
	return l
}

// lined tells it if the first box's context isn't as high, or its boxes, in order, aren't there, or it has other lines;
// or if the model, which is asked too, doesn't agree.
func lined(t *testing.T, l []api.Box, height int, lines []flow.Line, boxes ...api.Rect) {
	t.Helper()
	in := asked(t, l)
	want := flow.Output{Boxes: placed(in.Tree, boxes), Lines: lines, Height: height}
	if len(want.Boxes) != len(boxes) {
		t.Errorf("%v: %d boxes are told, of %d", l, len(boxes), len(want.Boxes))
	}
	answers(t, in, 0, want)
	if m := modelled(in, 0, &fates{}); !same(m, want) {
		t.Errorf("%v: the model has %v, not %v", l, m, want)
	}
}

// lays is as lined, where there are no lines.
func lays(t *testing.T, l []api.Box, height int, boxes ...api.Rect) {
	t.Helper()
	lined(t, l, height, nil, boxes...)
}

// lineOf gives a line of a Text.
func lineOf(at int, b api.Rect, atoms, wide int) flow.Line {
	return flow.Line{At: at, Line: line.Line{Box: b, Atoms: atoms, Wide: wide}}
}

// lines gives a list of lines.
func lines(l ...flow.Line) []flow.Line { return l }

// rows gives the box of what is as wide as the page.
func rows(top, bottom int) api.Rect { return box(0, top, 40, bottom) }

// The chapter's example.
func TestExample(t *testing.T) {
	lays(t, page(high(5, block(1, 0, 3)), high(5, block(1, 4, 0))), 14, rows(0, 5), rows(9, 14))
}

// P17.1, K8: the types have just these fields, in this order; and each of Placed's and of Line's counts where they are
// held against each other.
func TestFields(t *testing.T) {
	in := asked(t, page())
	in = flow.Input{in.Tree, []rect.Span{{From: 0, To: 40}}, []int{0}}
	out := flow.Output{[]flow.Placed{{3, box(1, 2, 3, 4)}}, []flow.Line{{5, line.Line{Atoms: 6}}}, 7}
	if in.Tree.Len() != 1 || in.Frames[0].To != 40 || len(in.Heights) != 1 || len(out.Boxes) != 1 || out.Height != 7 {
		t.Error(in, out)
	}
	p := flow.Placed{At: 3, Box: box(1, 2, 3, 4)}
	if out.Boxes[0] != p || p == (flow.Placed{At: 2, Box: p.Box}) || p == (flow.Placed{At: 3, Box: box(1, 2, 3, 5)}) {
		t.Error(p)
	}
	l := lineOf(5, api.Rect{}, 6, 0)
	if out.Lines[0] != l || l == lineOf(4, api.Rect{}, 6, 0) || l == lineOf(5, box(0, 0, 0, 1), 6, 0) || l == lineOf(5, api.Rect{}, 6, 1) {
		t.Error(l)
	}
}

// P17.1: Tall is a content's height, and the edges of top and bottom; nothing else of the box counts.
func TestTall(t *testing.T) {
	b := api.Box{Kind: api.Float, Side: api.Left, Width: 3, Height: 90, Margins: [4]int{100, 200, 300, 400}, Edges: [4]int{1, 20, 3, 40}}
	for _, x := range []struct {
		above, below, content, want int
	}{
		{0, 0, 0, 0}, {0, 0, 7, 7}, {1, 0, 7, 8}, {0, 3, 7, 10}, {1, 3, 7, 11}, {1, 3, 0, 4}, {3, 1, 1 << 47, 1<<47 + 4},
		{api.MaxSize, api.MaxSize, api.MaxSize, 3 * api.MaxSize},
	} {
		if got := flow.Tall(edged(x.above, x.below, b), x.content); got != x.want {
			t.Error(x, got)
		}
	}
	for _, kind := range []int{api.Block, api.Root, api.Text, api.Atom} {
		if got := flow.Tall(api.Box{Kind: kind, Height: api.Auto, Edges: [4]int{2, 9, 4, 9}}, 5); got != 11 {
			t.Error(kind, got)
		}
	}
}

// contexts is a tree with contexts in contexts, and heights of its contents.
func contexts() ([]api.Box, []int) {
	return page(
		block(1, 3, 0),                    // 1
		float(2, api.Left, 9, api.Auto),   // 2
		block(3, 1, 2),                    // 3
		float(4, api.Right, 4, 5),         // 4
		text(5, 0, 0),                     // 5
		atom(6, 3, 1),                     // 6
		high(2, block(3, 3, 0)),           // 7
		text(2, 5, 1),                     // 8
		atom(3, 6, 2),                     // 9
		float(3, api.Left, 3, api.Auto),   // 10
		high(1, block(4, 0, 0)),           // 11
		root(1, api.Auto, api.Auto, 2, 0), // 12
		high(4, block(2, 1, 1)),           // 13
		root(2, 5, api.Auto, 0, 0),        // 14
	), []int{0, 0, 8, 0, 0, 0, 0, 0, 0, 0, 1, 0, 6, 0, 3}
}

// Each Float and Root of one tree has its own context, with what stands in it, and nothing of what stands in others.
func TestContexts(t *testing.T) {
	l, heights := contexts()
	in := asked(t, l, heights...)
	at := func(at int, b api.Rect) flow.Placed { return flow.Placed{At: at, Box: b} }
	for place, want := range map[int]flow.Output{
		0: {
			Boxes: []flow.Placed{
				at(1, rows(5, 7)), at(2, box(0, 5, 9, 13)), at(8, rows(5, 7)), at(9, box(12, 5, 18, 7)), at(10, box(9, 5, 12, 6)),
				at(12, box(0, 13, 40, 19)),
			},
			Lines:  lines(lineOf(8, box(12, 5, 40, 7), 1, 6)),
			Height: 19,
		},
		2: {
			Boxes:  []flow.Placed{at(3, box(0, 1, 9, 1)), at(4, box(5, 1, 9, 6)), at(7, box(0, 3, 9, 5))},
			Height: 6,
		},
		4:  {Boxes: []flow.Placed{at(5, box(0, 0, 4, 1)), at(6, box(0, 0, 3, 1))}, Lines: lines(lineOf(5, box(0, 0, 4, 1), 1, 3)), Height: 1},
		10: {Boxes: []flow.Placed{at(11, box(0, 0, 3, 1))}, Height: 1},
		12: {Boxes: []flow.Placed{at(13, box(0, 1, 40, 5)), at(14, box(0, 6, 5, 9))}, Height: 9},
		14: {},
	} {
		answers(t, in, place, want)
		if m := modelled(in, place, &fates{}); !same(m, want) {
			t.Errorf("%d: the model has %v, not %v", place, m, want)
		}
	}
}

// Of no place of a Float or a Root there is nothing, however much stands in it.
func TestNoContext(t *testing.T) {
	l, heights := contexts()
	in := asked(t, l, heights...)
	for _, at := range []int{1, 3, 5, 6, 7, 8, 9, 11, 13, -1, -2, in.Tree.Len(), in.Tree.Len() + 1, -1 << 63, 1<<63 - 1} {
		answers(t, in, at, flow.Output{})
	}
}

// An empty context: nothing in it, and 0 high, though its own box has edges and a Height; nothing of that box counts.
func TestEmptyContext(t *testing.T) {
	lays(t, page(), 0)
	own := api.Box{Kind: api.Root, Width: 40, Height: 9, Edges: [4]int{1, 2, 3, 4}}
	lays(t, []api.Box{own}, 0)
	lays(t, []api.Box{own, high(5, block(1, 2, 3))}, 10, rows(2, 7))
	l := page(framed(float(1, api.Right, 6, 9), [4]int{5, 6, 7, 8}, [4]int{1, 2, 3, 4}), high(5, block(2, 2, 3)))
	answers(t, asked(t, l), 1, flow.Output{Boxes: []flow.Placed{{At: 2, Box: box(0, 2, 6, 7)}}, Height: 10})
}

// Two Blocks, one below the other: the margins between them collapse, to the greatest above 0 and the least below it.
func TestOneBelowTheOther(t *testing.T) {
	for _, x := range []struct{ below, above, apart int }{
		{0, 0, 0}, {3, 4, 4}, {4, 3, 4}, {3, -1, 2}, {-1, 3, 2}, {-3, -1, -3}, {-1, -3, -3}, {-5, 2, -3}, {0, -7, -7}, {6, 0, 6},
	} {
		top := 7 + x.apart
		for _, second := range []api.Box{block(1, x.above, 6), text(1, x.above, 6)} {
			lays(t, page(high(5, block(1, 2, x.below)), high(3, second)), top+9, rows(2, 7), rows(top, top+3))
		}
		// What stands there has edges, or an edge, in place of a Height.
		lays(t, page(edged(4, 1, block(1, 2, x.below)), edged(3, 0, block(1, x.above, 6))), top+9, rows(2, 7), rows(top, top+3))
		lays(t, page(edged(5, 0, block(1, 2, x.below)), edged(0, 3, text(1, x.above, 6))), top+9, rows(2, 7), rows(top, top+3))
	}
}

// A Block in a Block, 5 high: what the outer one's edges and its Height make of the margins around.
func TestOneInTheOther(t *testing.T) {
	for _, x := range []struct {
		outer                      api.Box
		top, inner, bottom, behind int
	}{
		{block(1, 3, 4), 5, 5, 10, 16},               // 5 at the top, and 6 behind
		{edged(2, 0, block(1, 3, 4)), 3, 10, 15, 21}, // 3, the edge, 5; 6 behind
		{edged(0, 2, block(1, 3, 4)), 5, 5, 18, 22},  // 6 within, the edge, 4
		{edged(2, 7, block(1, 3, 4)), 3, 10, 28, 32},
		{high(3, block(1, 3, 4)), 5, 5, 8, 12},
		{high(20, block(1, 3, 4)), 5, 5, 25, 29},
		{high(0, block(1, 3, 4)), 5, 5, 5, 9},
		{edged(2, 7, high(3, block(1, 3, 4))), 3, 10, 15, 19},
		{edged(0, 7, high(0, block(1, 3, 4))), 5, 5, 12, 16},
		{edged(2, 0, high(20, block(1, 3, 4))), 3, 10, 25, 29},
		{block(1, -3, -4), 2, 2, 7, 9},
		{edged(1, 0, block(1, -3, -4)), -3, 3, 8, 10},
		{edged(0, 1, block(1, -3, -4)), 2, 2, 14, 11},
		{block(1, 8, 9), 8, 8, 13, 22},
	} {
		l := page(x.outer, high(5, block(2, 5, 6)), high(2, block(1, 1, 0)))
		lays(t, l, max(x.behind+2, 0), rows(x.top, x.bottom), rows(x.inner, x.inner+5), rows(x.behind, x.behind+2))
	}
}

// An empty Block: with neither edges nor a Height its margins collapse with each other, and with those around.
func TestEmpty(t *testing.T) {
	for _, x := range []struct {
		b                   api.Box
		top, bottom, behind int
	}{
		{block(1, 3, 4), 3, 3, 4},
		{block(1, 4, 3), 4, 4, 4},
		{block(1, -3, 4), -3, -3, 1},
		{block(1, 3, -4), 3, 3, -1},
		{block(1, -3, -4), -3, -3, -3},
		{block(1, 0, 0), 0, 0, 1},
		{edged(2, 0, block(1, 3, 4)), 3, 5, 9},
		{edged(0, 2, block(1, 3, 4)), 3, 5, 9},
		{edged(1, 1, block(1, 3, 4)), 3, 5, 9},
		{high(0, block(1, 3, 4)), 3, 3, 7},
		{high(2, block(1, 3, 4)), 3, 5, 9},
		{edged(2, 3, high(4, block(1, 3, 4))), 3, 12, 16},
	} {
		for _, kind := range []int{api.Block, api.Text} {
			x.b.Kind = kind
			lays(t, page(x.b, high(2, block(1, 1, 0))), max(x.behind+2, 0), rows(x.top, x.bottom), rows(x.behind, x.behind+2))
		}
	}
}

// An empty box in one that isn't loose is where the margins up to it come to; those behind it move what comes.
func TestEmptyWhereNothingIsLoose(t *testing.T) {
	lays(t, page(block(1, 5, -2), block(1, 6, 0), high(1, block(1, 9, 0))), 8, rows(5, 5), rows(4, 4), rows(7, 8))
	lays(t, page(edged(1, 0, block(1, 3, 0)), block(2, 5, -2), text(2, 6, 0), high(1, block(2, 9, 0))), 12,
		rows(3, 12), rows(9, 9), rows(8, 8), rows(11, 12))
	lays(t, page(block(1, 3, 0), high(1, block(2, 0, 4)), block(2, 5, -2), text(2, 6, 0), high(1, block(2, 9, 0))), 12,
		rows(3, 12), rows(3, 4), rows(9, 9), rows(8, 8), rows(11, 12))
}

// An empty box in one that is loose waits: it is where the box around begins, whatever margins it has.
func TestEmptyInWhatIsLoose(t *testing.T) {
	lays(t, page(block(1, 3, 0), block(2, 5, -2), high(1, block(2, 9, 0))), 8, rows(7, 8), rows(7, 7), rows(7, 8))
	lays(t, page(block(1, 3, 0), block(2, 5, -2), block(3, 1, 1), text(4, 2, 8), high(1, block(2, 9, 0)), block(2, 4, 0)), 12,
		rows(7, 8), rows(7, 7), rows(7, 7), rows(7, 7), rows(7, 8), rows(12, 12))
	// Nothing stands in any: all is where the outer one is left.
	lays(t, page(block(1, 3, 7), block(2, 5, -2), block(3, 4, 9)), 7, rows(7, 7), rows(7, 7), rows(7, 7))
	// The outer one's bottom edge, or its Height, is the first that stands: all margins within are known then.
	lays(t, page(edged(0, 2, block(1, 3, 7)), block(2, 5, -2)), 12, rows(3, 5), rows(3, 3))
	lays(t, page(high(4, block(1, 3, 7)), block(2, 5, -2), text(3, 0, 6)), 15, rows(4, 8), rows(4, 4), rows(4, 4))
}

// A content ends no higher than it begins, though margins below 0 move what stands in it above that.
func TestContentsThatEndAboveTheirTop(t *testing.T) {
	within := high(1, block(2, -9, 5))
	lays(t, page(edged(2, 0, block(1, 3, 4)), within, high(1, block(1, 1, 0))), 11, rows(3, 5), rows(-4, -3), rows(10, 11))
	lays(t, page(edged(2, 1, block(1, 3, 4)), within, high(1, block(1, 1, 0))), 11, rows(3, 6), rows(-4, -3), rows(10, 11))
	within.Margins[2] = 9
	lays(t, page(edged(2, 1, block(1, 3, 4)), within, high(1, block(1, 1, 0))), 12, rows(3, 7), rows(-4, -3), rows(11, 12))
	// The box itself is moved up, too, while no edge stands between.
	lays(t, page(block(1, 3, 4), within, high(1, block(1, 1, 0))), 5, rows(-6, -5), rows(-6, -5), rows(4, 5))
}

// Boxes one in the other, and one behind the other: a margin below goes on through all boxes that end there.
func TestMarginsGoOnThroughSeveralBoxes(t *testing.T) {
	lays(t, page(
		block(1, 1, 2), block(2, 3, -4), text(3, -5, 6), high(5, block(3, 2, 7)), high(1, block(1, 8, 9)),
	), 20, rows(1, 6), rows(1, 6), rows(1, 1), rows(1, 6), rows(10, 11)) // 6 and -5; and 8 and -4
}

// A Block's and a Text's box has its columns, and its edges beside them; its margins leave it less room, or more.
func TestColumns(t *testing.T) {
	outer := framed(high(5, block(1, 0, 0)), [4]int{0, 1, 0, 2}, [4]int{0, 3, 0, 4}) // 6 to 36
	for _, x := range []struct {
		b           api.Box
		left, right int
	}{
		{block(2, 0, 0), 6, 36},
		{framed(block(2, 0, 0), [4]int{0, 1, 0, 2}, [4]int{}), 8, 35},
		{framed(block(2, 0, 0), [4]int{0, 1, 0, 2}, [4]int{0, 3, 0, 4}), 8, 35},
		{framed(text(2, 0, 0), [4]int{0, -1, 0, -2}, [4]int{0, 3, 0, 4}), 4, 37},
		{framed(text(2, 0, 0), [4]int{0, 50, 0, 2}, [4]int{0, 3, 0, 4}), 8, 15},
	} {
		lays(t, page(outer, x.b), 5, box(2, 0, 39, 5), box(x.left, 0, x.right, 0))
		x.b.Width = 10
		left := 6 + x.b.Margins[3]
		lays(t, page(outer, x.b), 5, box(2, 0, 39, 5), box(left, 0, left+10+x.b.Edges[1]+x.b.Edges[3], 0))
	}
}

// Height: 0, where the spot is at the end, or the lowest bottom of a float, whichever is the greatest.
func TestContextHeight(t *testing.T) {
	for _, x := range []struct {
		l      []api.Box
		height int
		boxes  []api.Rect
	}{
		{page(high(5, block(1, 0, 3))), 8, []api.Rect{rows(0, 5)}},
		{page(high(5, block(1, 0, -3))), 2, []api.Rect{rows(0, 5)}},
		{page(high(5, block(1, 0, -9))), 0, []api.Rect{rows(0, 5)}},
		{page(high(5, block(1, -9, 0))), 0, []api.Rect{rows(-9, -4)}},
		{page(block(1, 2, 3)), 3, []api.Rect{rows(2, 2)}},
		{page(block(1, -2, -3)), 0, []api.Rect{rows(-2, -2)}},
		{page(high(5, block(1, 0, 3)), float(1, api.Left, 2, 4)), 12, []api.Rect{rows(0, 5), box(0, 8, 2, 12)}},
		{page(float(1, api.Left, 2, 4), float(1, api.Left, 2, 9), float(1, api.Right, 2, 3)), 9, []api.Rect{box(0, 0, 2, 4), box(2, 0, 4, 9), box(38, 0, 40, 3)}},
		{page(float(1, api.Right, 2, 4), high(5, block(1, 0, 3))), 8, []api.Rect{box(38, 0, 40, 4), rows(0, 5)}},
		{page(float(1, api.Right, 0, 20)), 20, []api.Rect{box(40, 0, 40, 20)}}, // a float without a point has a bottom, too
		{page(framed(float(1, api.Left, 2, 4), [4]int{0, 0, 6, 0}, [4]int{})), 10, []api.Rect{box(0, 0, 2, 4)}},
		{page(framed(float(1, api.Left, 2, 4), [4]int{0, 0, -6, 0}, [4]int{})), 0, []api.Rect{box(0, 0, 2, 4)}},
		{page(high(0, block(1, -9, 0)), framed(float(1, api.Left, 2, 4), [4]int{1, 0, 0, 0}, [4]int{})), 0, []api.Rect{rows(-9, -9), box(0, -8, 2, -4)}},
	} {
		lays(t, x.l, x.height, x.boxes...)
	}
}

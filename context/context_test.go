package context_test

import (
	"slices"
	"testing"

	"runaround/api"
	"runaround/context"
	"runaround/flow"
	"runaround/line"
	"runaround/rect"
	"runaround/tree"
)

// block gives a Block as wide as its content around lets it be.
func block(depth, height int) api.Box {
	return api.Box{Depth: depth, Kind: api.Block, Width: api.Auto, Height: height}
}

// root gives a Root as wide as its content around lets it be.
func root(depth, height int) api.Box {
	return api.Box{Depth: depth, Kind: api.Root, Width: api.Auto, Height: height}
}

// text gives a Text as wide as its content around lets it be.
func text(depth int) api.Box {
	return api.Box{Depth: depth, Kind: api.Text, Width: api.Auto, Height: api.Auto}
}

// atom gives an Atom.
func atom(depth, wide, height int) api.Box {
	return api.Box{Depth: depth, Kind: api.Atom, Width: wide, Height: height}
}

// float gives a Float at the left.
func float(depth, wide, height int) api.Box {
	return api.Box{Depth: depth, Kind: api.Float, Side: api.Left, Width: wide, Height: height}
}

// apart gives a box with a margin above and one below.
func apart(above, below int, b api.Box) api.Box {
	b.Margins[0], b.Margins[2] = above, below
	return b
}

// edged gives a box with an edge above and one below.
func edged(above, below int, b api.Box) api.Box {
	b.Edges[0], b.Edges[2] = above, below
	return b
}

// page gives a first box, 40 wide, and others that stand in it.
func page(l ...api.Box) []api.Box {
	return append([]api.Box{{Kind: api.Root, Width: 40, Height: api.Auto}}, l...)
}

// built gives the tree of boxes.
func built(t *testing.T, l []api.Box) *tree.Tree {
	t.Helper()
	x, at, e := tree.Build(l)
	if e != api.OK {
		t.Fatal(l, at, e)
	}
	return x
}

// boxesOf gives all boxes of a tree.
func boxesOf(x *tree.Tree) []api.Box {
	var l []api.Box
	for at := range x.Len() {
		l = append(l, x.Box(at))
	}
	return l
}

// box gives a rectangle.
func box(left, top, right, bottom int) api.Rect {
	return api.Rect{Left: left, Top: top, Right: right, Bottom: bottom}
}

// placed gives a box by its place.
func placed(at, left, top, right, bottom int) flow.Placed {
	return flow.Placed{At: at, Box: box(left, top, right, bottom)}
}

// span gives some columns.
func span(from, to int) rect.Span { return rect.Span{From: from, To: to} }

// laid gives an Output without lines.
func laid(height int, boxes ...flow.Placed) flow.Output {
	return flow.Output{Boxes: boxes, Height: height}
}

// sameOutput tells whether two Outputs are alike.
func sameOutput(a, b flow.Output) bool {
	return slices.Equal(a.Boxes, b.Boxes) && slices.Equal(a.Lines, b.Lines) && a.Height == b.Height
}

// same tells whether two Results are alike.
func same(a, b context.Result) bool {
	return slices.Equal(a.Frames, b.Frames) && slices.Equal(a.Heights, b.Heights) && slices.EqualFunc(a.Outputs, b.Outputs, sameOutput)
}

// answers tells it if the heights of some boxes' contents aren't so, or their Outputs: those that aren't told are zero.
func answers(t *testing.T, l []api.Box, heights []int, outputs map[int]flow.Output) context.Result {
	t.Helper()
	r := context.All(built(t, l))
	if !slices.Equal(r.Heights, heights) {
		t.Errorf("%v: Heights %v, not %v", l, r.Heights, heights)
	}
	if len(r.Outputs) != len(l) {
		t.Fatalf("%v: %d Outputs", l, len(r.Outputs))
	}
	for at, got := range r.Outputs {
		if !sameOutput(got, outputs[at]) {
			t.Errorf("%v: Outputs[%d] is %v, not %v", l, at, got, outputs[at])
		}
	}
	return r
}

// P18.1, the chapter's example.
func TestExample(t *testing.T) {
	r := answers(t, page(float(1, 6, api.Auto), block(2, 5)), []int{5, 5, 0}, map[int]flow.Output{
		0: laid(5, placed(1, 0, 0, 6, 5)),
		1: laid(5, placed(2, 0, 0, 6, 5)),
	})
	if want := []rect.Span{span(0, 40), span(0, 6), span(0, 6)}; !slices.Equal(r.Frames, want) {
		t.Error(r.Frames)
	}
}

// P18.1: of one Root alone nothing is laid; it has its Height, if that isn't Auto, and else a content 0 high.
func TestOneRoot(t *testing.T) {
	for _, x := range []struct{ height, want int }{{api.Auto, 0}, {0, 0}, {7, 7}, {api.MaxSize, api.MaxSize}} {
		for _, wide := range []int{0, 9} {
			b := edged(3, 4, root(0, x.height))
			b.Width = wide
			r := answers(t, []api.Box{b}, []int{x.want}, nil)
			if !slices.Equal(r.Frames, []rect.Span{span(0, wide)}) {
				t.Error(r.Frames)
			}
		}
	}
}

// own is a Height that a box may have, and how high its content is then, if 10 high stands in it.
type own struct{ height, content int }

// owns gives all sorts of Heights.
func owns() []own { return []own{{api.Auto, 10}, {0, 0}, {4, 4}, {10, 10}, {23, 23}} }

// stuff gives a Block that makes a content 10 high: its margins don't leave it, as the content is a context of its own.
func stuff(depth int) api.Box { return apart(2, 3, block(depth, 5)) }

// P18.1: what stands behind a Float, or a Root, and what clears it, stands where its content's height lets it.
func TestWhatStandsBehind(t *testing.T) {
	for _, x := range owns() {
		h := x.content
		inner := laid(10, placed(2, 0, 2, 6, 7))
		clears := block(1, 1)
		clears.Clear = api.Both
		answers(t, page(float(1, 6, x.height), stuff(2), clears), []int{h + 1, h, 0, 0}, map[int]flow.Output{
			0: laid(h+1, placed(1, 0, 0, 6, h), placed(3, 0, h, 40, h+1)), 1: inner,
		})
		b := edged(1, 2, root(1, x.height))
		b.Width = 6
		answers(t, page(b, stuff(2), block(1, 1)), []int{h + 4, h, 0, 0}, map[int]flow.Output{
			0: laid(h+4, placed(1, 0, 0, 6, h+3), placed(3, 0, h+3, 40, h+4)), 1: inner,
		})
	}
}

// P18.1: Floats in Floats, each of all sorts of Heights.
func TestFloatsInFloats(t *testing.T) {
	for _, inner := range owns() {
		for _, outer := range owns() {
			tall := inner.content + 3
			high := tall + 5
			if outer.height != api.Auto {
				high = outer.height
			}
			l := page(float(1, 20, outer.height), apart(1, 4, edged(1, 2, float(2, 6, inner.height))), stuff(3))
			answers(t, l, []int{high, high, inner.content, 0}, map[int]flow.Output{
				0: laid(high, placed(1, 0, 0, 20, high)),
				1: laid(tall+5, placed(2, 0, 1, 6, tall+1)),
				2: laid(10, placed(3, 0, 2, 6, 7)),
			})
		}
	}
}

// P18.1: Roots in Blocks, one in the other, each of all sorts of Heights.
func TestRootsInBlocks(t *testing.T) {
	for _, inner := range owns() {
		for _, outer := range owns() {
			high := inner.content + 10
			if outer.height != api.Auto {
				high = outer.height
			}
			l := page(edged(1, 0, block(1, api.Auto)), root(2, outer.height), block(3, api.Auto), apart(3, 7, root(4, inner.height)), stuff(5))
			answers(t, l, []int{high + 1, 0, high, 0, inner.content, 0}, map[int]flow.Output{
				0: laid(high+1, placed(1, 0, 0, 40, high+1), placed(2, 0, 1, 40, high+1)),
				2: laid(inner.content+10, placed(3, 0, 3, 40, inner.content+3), placed(4, 0, 3, 40, inner.content+3)),
				4: laid(10, placed(5, 0, 2, 40, 7)),
			})
		}
	}
}

// P18.1: a Float beside Atoms takes columns from their line, if it is full, and lets its context be as high as it is.
func TestFloatsBesideAtoms(t *testing.T) {
	for _, x := range owns() {
		from, high := 6, max(2, x.content)
		if x.content == 0 {
			from = 0
		}
		l := page(text(1), atom(2, 4, 1), float(2, 6, x.height), stuff(3), atom(2, 5, 2))
		outer := laid(high, placed(1, 0, 0, 40, 2), placed(2, from, 0, from+4, 1), placed(3, 0, 0, 6, x.content), placed(5, from+4, 0, from+9, 2))
		outer.Lines = []flow.Line{{At: 1, Line: line.Line{Box: box(from, 0, 40, 2), Atoms: 2, Wide: 9}}}
		answers(t, l, []int{high, 0, 0, x.content, 0, 0}, map[int]flow.Output{0: outer, 3: laid(10, placed(4, 0, 2, 6, 7))})
	}
}

// P18.1: several deep and of all kinds, each content of Auto is as high as what stands in it.
func TestSeveralDeep(t *testing.T) {
	l := page(
		edged(1, 1, float(1, 30, api.Auto)),            // 1
		apart(2, 0, root(2, api.Auto)),                 // 2
		text(3), atom(4, 20, 3), float(4, 9, api.Auto), // 3 to 5
		block(5, api.Auto), float(6, 5, api.Auto), // 6 and 7
		text(7), atom(8, 5, 4), atom(8, 1, 4), // 8 to 10
	)
	first := laid(8, placed(3, 0, 0, 30, 3), placed(4, 9, 0, 29, 3), placed(5, 0, 0, 9, 8))
	first.Lines = []flow.Line{{At: 3, Line: line.Line{Box: box(9, 0, 30, 3), Atoms: 1, Wide: 20}}}
	last := laid(8, placed(8, 0, 0, 5, 8), placed(9, 0, 0, 5, 4), placed(10, 0, 4, 1, 8))
	last.Lines = []flow.Line{
		{At: 8, Line: line.Line{Box: box(0, 0, 5, 4), Atoms: 1, Wide: 5}}, {At: 8, Line: line.Line{Box: box(0, 4, 5, 8), Atoms: 1, Wide: 1}},
	}
	answers(t, l, []int{12, 10, 8, 0, 0, 8, 0, 8, 0, 0, 0}, map[int]flow.Output{
		0: laid(12, placed(1, 0, 0, 30, 12)),
		1: laid(10, placed(2, 0, 2, 30, 10)),
		2: first,
		5: laid(8, placed(6, 0, 0, 9, 0), placed(7, 0, 0, 5, 8)),
		7: last,
	})
}

// P18.1: Blocks, Texts and Atoms have the Height 0 in the list, and no Output, whatever their own Heights are.
func TestOthersHaveNoHeight(t *testing.T) {
	high := text(1)
	high.Height = 9
	outer := laid(17, placed(1, 0, 0, 40, 6), placed(2, 0, 0, 40, 8), placed(3, 0, 6, 40, 15), placed(4, 0, 6, 5, 8), placed(5, 0, 15, 40, 17))
	outer.Lines = []flow.Line{{At: 3, Line: line.Line{Box: box(0, 6, 40, 8), Atoms: 1, Wide: 5}}}
	answers(t, page(block(1, 6), block(2, 8), high, atom(2, 5, 2), root(1, 2)), []int{17, 0, 0, 0, 0, 2}, map[int]flow.Output{0: outer})
}

// P18.1: Frames are as each content's own context sees them.
func TestFrames(t *testing.T) {
	b := block(1, api.Auto)
	b.Margins, b.Edges = [4]int{0, 3, 0, 2}, [4]int{0, 1, 0, 4}
	r := context.All(built(t, page(b, text(2), atom(3, 50, 1), float(3, 7, api.Auto), block(4, 1), root(2, api.Auto), block(3, 1))))
	want := []rect.Span{span(0, 40), span(6, 36), span(6, 36), span(0, 50), span(0, 7), span(0, 7), span(0, 30), span(0, 30)}
	if !slices.Equal(r.Frames, want) {
		t.Errorf("%v, not %v", r.Frames, want)
	}
}

// P18.1: another Height of the first box changes the height of its content, and nothing else.
func TestTheFirstBoxesHeight(t *testing.T) {
	beside := root(1, api.Auto)
	beside.Width = 34
	l := page(float(1, 6, api.Auto), stuff(2), beside, stuff(2), stuff(1))
	outputs := map[int]flow.Output{
		0: laid(20, placed(1, 0, 0, 6, 10), placed(3, 6, 0, 40, 10), placed(5, 0, 12, 40, 17)),
		1: laid(10, placed(2, 0, 2, 6, 7)),
		3: laid(10, placed(4, 0, 2, 34, 7)),
	}
	for _, x := range []own{{api.Auto, 20}, {0, 0}, {7, 7}, {20, 20}, {99, 99}} {
		l[0].Height = x.height
		answers(t, l, []int{x.content, 10, 0, 10, 0, 0}, outputs)
	}
}

package flow_test

import (
	"testing"

	"runaround/api"
	"runaround/flow"
)

// A Root stands where the margins up to it come to, whatever is loose around it; its own ones collapse with those around,
// but with none of what stands in it.
func TestRoots(t *testing.T) {
	next := high(2, block(1, 1, 0))
	lays(t, page(root(1, 10, 5, 3, 4), next), 14, box(0, 3, 10, 8), rows(12, 14))
	lays(t, page(root(1, 10, 5, -3, -4), next), 1, box(0, -3, 10, 2), rows(-1, 1))
	lays(t, page(root(1, 10, 0, 3, 4), next), 9, box(0, 3, 10, 3), rows(7, 9))
	lays(t, page(high(2, block(1, 0, 3)), root(1, 10, 5, 4, 0), next), 14, rows(0, 2), box(0, 6, 10, 11), rows(12, 14))
	lays(t, page(block(1, 3, 2), root(1, 10, 5, 4, 0)), 9, rows(3, 3), box(0, 4, 10, 9))
	lays(t, page(root(1, 10, 5, 3, 4), high(9, block(2, 60, 70)), next), 14, box(0, 3, 10, 8), rows(12, 14))
	lays(t, page(block(1, 3, 9), root(2, 10, 5, 7, 6), next), 23, rows(7, 12), box(0, 7, 10, 12), rows(21, 23))
	lays(t, page(edged(0, 1, block(1, 3, 9)), root(2, 10, 5, 7, 6), next), 30, rows(7, 19), box(0, 7, 10, 12), rows(28, 30))
	lays(t, page(block(1, 3, 0), block(2, 4, 0), block(2, 5, -1), root(3, 10, 5, 1, 2)), 11,
		rows(5, 10), rows(5, 5), rows(5, 10), box(0, 5, 10, 10))
}

// A Root's box has its edges, not its margins; one of the Width Auto is as wide as its margins let it be.
func TestRootsColumns(t *testing.T) {
	margins, edges := [4]int{1, 2, 3, 4}, [4]int{5, 6, 7, 8}
	around := framed(block(1, 0, 0), [4]int{0, 10, 0, 0}, [4]int{0, 0, 0, 5}) // 5 to 30
	for _, x := range []struct{ wide, right, within int }{{api.Auto, 38, 28}, {10, 28, 33}, {0, 18, 23}, {50, 68, 73}} {
		r := framed(root(1, x.wide, 5, 0, 0), margins, edges)
		lays(t, page(r, high(2, block(1, 0, 0))), 23, box(4, 1, x.right, 18), rows(21, 23))
		r.Depth = 2
		lays(t, page(around, r), 21, box(0, 1, 30, 18), box(9, 1, x.within, 18))
	}
}

// A Root is as high as Heights has it, if its Height is Auto; else it has that.
func TestRootsHeights(t *testing.T) {
	for _, heights := range [][]int{{0, 0, 0}, {9, 8, 7}, {0, 1 << 47, 0}} {
		r := edged(1, 2, root(1, 10, api.Auto, 4, 5))
		y := heights[1] + 7
		want := flow.Output{Boxes: []flow.Placed{{At: 1, Box: box(0, 4, 10, y)}, {At: 2, Box: rows(y+5, y+5)}}, Height: y + 5}
		answers(t, asked(t, page(r, block(1, 0, 0)), heights...), 0, want)
		want = flow.Output{Boxes: []flow.Placed{{At: 1, Box: box(0, 4, 10, 10)}, {At: 2, Box: rows(15, 15)}}, Height: 15}
		answers(t, asked(t, page(high(3, r), block(1, 0, 0)), heights...), 0, want)
	}
}

// A Root stands beside floats, in all of its rows, or below them.
func TestRootsBesideAndBelowFloats(t *testing.T) {
	for _, x := range []struct {
		side, wide, marginRight, marginLeft int
		want                                api.Rect
	}{
		{api.Left, 10, 0, 0, box(6, 0, 16, 3)},
		{api.Left, 34, 0, 0, box(6, 0, 40, 3)},
		{api.Left, 35, 0, 0, box(0, 10, 35, 13)},
		{api.Left, 10, 0, 3, box(6, 0, 16, 3)},
		{api.Left, 10, 0, 7, box(7, 0, 17, 3)},
		{api.Left, 30, 4, 0, box(6, 0, 36, 3)},
		{api.Left, 30, 5, 0, box(0, 10, 30, 13)},
		{api.Left, api.Auto, 0, 0, box(0, 10, 40, 13)},
		{api.Left, api.Auto, 0, 6, box(6, 0, 40, 3)},
		{api.Left, 50, 0, 0, box(0, 10, 50, 13)},
		{api.Right, 34, 0, 0, box(0, 0, 34, 3)},
		{api.Right, 34, 0, 1, box(1, 10, 35, 13)},
		{api.Right, 10, 0, 3, box(3, 0, 13, 3)},
		{api.Right, 50, 0, 0, box(0, 10, 50, 13)},
	} {
		r := root(1, x.wide, 3, 0, 0)
		r.Margins = [4]int{0, x.marginRight, 0, x.marginLeft}
		lays(t, page(float(1, x.side, 6, 10), r), max(10, x.want.Bottom), atSide(x.side, 0, 0, 6, 10), x.want)
	}
	lays(t, page(root(1, 50, 3, 0, 0)), 3, box(0, 0, 50, 3)) // no float reaches in
	// A wider float is lower: a Root that is high enough has rows beside it, too.
	for _, x := range []struct {
		wide, height int
		want         api.Rect
	}{
		{34, 4, box(6, 0, 40, 4)}, {34, 5, box(0, 7, 34, 12)}, {32, 5, box(8, 0, 40, 5)}, {34, 0, box(6, 0, 40, 0)}, {35, 0, box(0, 7, 35, 7)},
	} {
		lays(t, page(float(1, api.Left, 6, 4), clearing(api.Left, float(1, api.Left, 8, 3)), root(1, x.wide, x.height, 0, 0)), max(7, x.want.Bottom),
			box(0, 0, 6, 4), box(0, 4, 8, 7), x.want)
	}
}

// A Root that clears stands below what it clears, if it wouldn't anyway.
func TestRootsThatClear(t *testing.T) {
	for clear, bottom := range []int{0, 4, 7, 7} {
		for _, margin := range []int{-2, 0, 2, 4, 5, 7, 10} {
			top := margin
			if clear != api.None {
				top = max(margin, bottom)
			}
			from := 0
			if top < 4 && top+5 > 0 {
				from = 6
			}
			lays(t, page(float(1, api.Left, 6, 4), float(1, api.Right, 6, 7), clearing(clear, root(1, 10, 5, margin, 3))), max(7, top+8),
				box(0, 0, 6, 4), box(34, 0, 40, 7), box(from, top, from+10, top+5))
		}
	}
}

// A Root that clears the sides of Floats that wait: all is settled ahead of its own margin, and it stands below them.
func TestRootsThatClearWhatWaits(t *testing.T) {
	for _, side := range sides() {
		for clear := range 4 {
			for _, x := range []struct{ margin, top, collapsed int }{{2, 7, 3}, {4, 7, 4}, {5, 8, 5}, {-1, 7, 2}, {-9, 7, -6}} {
				l := page(block(1, 3, 0), float(2, side, 5, 4), clearing(clear, root(2, 10, 5, x.margin, 0)))
				y, from := x.collapsed, []int{0, 5, 0}[side]
				if clear == side || clear == api.Both {
					lays(t, l, x.top+5, rows(3, x.top+5), atSide(side, 0, 3, 5, 4), box(0, x.top, 10, x.top+5))
					continue
				}
				lays(t, l, max(y+5, 0), rows(y, y+5), atSide(side, 0, y, 5, 4), box(from, y, from+10, y+5))
			}
		}
	}
}

// Atoms alone: they stand at the Text's top, where its margin above has collapsed, line by line.
func TestAtoms(t *testing.T) {
	next := high(1, block(1, 1, 0))
	lined(t, page(text(1, 3, 4), atom(2, 5, 2), atom(2, 6, 3), next), 11, lines(lineOf(1, rows(3, 6), 2, 11)),
		rows(3, 6), box(0, 3, 5, 5), box(5, 3, 11, 6), rows(10, 11))
	lined(t, page(text(1, 3, 4), atom(2, 30, 2), atom(2, 20, 1), atom(2, 5, 3), next), 13,
		lines(lineOf(1, rows(3, 5), 1, 30), lineOf(1, rows(5, 8), 2, 25)),
		rows(3, 8), box(0, 3, 30, 5), box(0, 5, 20, 6), box(20, 5, 25, 8), rows(12, 13))
	// One that isn't high stands there all the same, so that the margins around don't collapse through the Text.
	lined(t, page(text(1, 3, 4), atom(2, 4, 0), next), 8, lines(lineOf(1, rows(3, 3), 1, 4)), rows(3, 3), box(0, 3, 4, 3), rows(7, 8))
	lined(t, page(block(1, 3, 0), text(2, 7, 1), atom(3, 4, 2), next), 11, lines(lineOf(2, rows(7, 9), 1, 4)),
		rows(7, 9), rows(7, 9), box(0, 7, 4, 9), rows(10, 11))
}

// A Text's edges and its Height around its atoms; these stand in its columns.
func TestTextsEdges(t *testing.T) {
	next := high(1, block(1, 1, 0))
	for _, x := range []struct {
		b                         api.Box
		top, line, bottom, behind int
	}{
		{text(1, 3, 4), 3, 3, 5, 9},
		{edged(2, 0, text(1, 3, 4)), 3, 5, 7, 11},
		{edged(0, 2, text(1, 3, 4)), 3, 3, 7, 11},
		{edged(2, 6, text(1, 3, 4)), 3, 5, 13, 17},
		{high(9, text(1, 3, 4)), 3, 3, 12, 16},
		{high(0, text(1, 3, 4)), 3, 3, 3, 7},
		{edged(2, 6, high(1, text(1, 3, 4))), 3, 5, 12, 16},
		{text(1, -3, -4), -3, -3, -1, -4},
	} {
		lined(t, page(x.b, atom(2, 5, 2), next), max(x.behind+1, 0), lines(lineOf(1, rows(x.line, x.line+2), 1, 5)),
			rows(x.top, x.bottom), box(0, x.line, 5, x.line+2), rows(x.behind, x.behind+1))
	}
	b := framed(text(1, 0, 0), [4]int{0, 9, 0, 3}, [4]int{0, 1, 0, 2}) // 5 to 15
	b.Width = 10
	lined(t, page(b, atom(2, 6, 1), atom(2, 5, 1), atom(2, 12, 1)), 3,
		lines(lineOf(1, box(5, 0, 15, 1), 1, 6), lineOf(1, box(5, 1, 15, 2), 1, 5), lineOf(1, box(5, 2, 15, 3), 1, 12)),
		box(3, 0, 16, 3), box(5, 0, 11, 1), box(5, 1, 10, 2), box(5, 2, 17, 3))
}

// Floats ahead of the first Atom are placed where the Text's content begins: they wait for that, if it isn't known.
func TestFloatsAheadOfAtoms(t *testing.T) {
	lined(t, page(text(1, 3, 4), float(2, api.Left, 5, 4), float(2, api.Right, 6, 1), atom(2, 10, 2), atom(2, 25, 2)), 11,
		lines(lineOf(1, box(5, 3, 34, 5), 1, 10), lineOf(1, box(5, 5, 40, 7), 1, 25)),
		rows(3, 7), box(0, 3, 5, 7), box(34, 3, 40, 4), box(5, 3, 15, 5), box(5, 5, 30, 7))
	lined(t, page(edged(2, 0, text(1, 3, 0)), float(2, api.Left, 5, 4), atom(2, 4, 1)), 9, lines(lineOf(1, box(5, 5, 40, 6), 1, 4)),
		rows(3, 6), box(0, 5, 5, 9), box(5, 5, 9, 6))
	lined(t, page(block(1, 3, 0), float(2, api.Left, 5, 4), text(2, 7, 0), atom(3, 4, 1)), 11, lines(lineOf(3, box(5, 7, 40, 8), 1, 4)),
		rows(7, 8), box(0, 7, 5, 11), rows(7, 8), box(5, 7, 9, 8))
	lined(t, page(block(1, 3, 0), text(2, 1, 5), float(3, api.Left, 5, 4), text(2, 7, 0), float(3, api.Left, 6, 1), atom(3, 4, 1)), 11,
		lines(lineOf(4, box(11, 7, 40, 8), 1, 4)),
		rows(7, 8), rows(7, 7), box(0, 7, 5, 11), rows(7, 8), box(5, 7, 11, 8), box(11, 7, 15, 8))
}

// Floats between Atoms, and behind the last one, stand beside their line, or below it.
func TestFloatsAmongAtoms(t *testing.T) {
	lined(t, page(text(1, 3, 0), atom(2, 4, 1), float(2, api.Left, 3, 2), float(2, api.Right, 34, 1), atom(2, 3, 1), atom(2, 35, 1)), 6,
		lines(lineOf(1, box(3, 3, 40, 4), 2, 7), lineOf(1, rows(5, 6), 1, 35)),
		rows(3, 6), box(3, 3, 7, 4), box(0, 3, 3, 5), box(6, 4, 40, 5), box(7, 3, 10, 4), box(0, 5, 35, 6))
	lined(t, page(text(1, 3, 0), atom(2, 4, 1), float(2, api.Left, 3, 2)), 5, lines(lineOf(1, box(3, 3, 40, 4), 1, 4)),
		rows(3, 4), box(3, 3, 7, 4), box(0, 3, 3, 5))
	lined(t, page(text(1, 3, 0), atom(2, 4, 1), float(2, api.Left, 37, 2)), 6, lines(lineOf(1, rows(3, 4), 1, 4)),
		rows(3, 4), box(0, 3, 4, 4), box(0, 4, 37, 6))
	// What a Float among Atoms clears is the context's, ahead of the Text.
	lined(t, page(float(1, api.Left, 5, 4), text(1, 0, 0), atom(2, 4, 1), clearing(api.Left, float(2, api.Left, 3, 2)), atom(2, 4, 1)), 6,
		lines(lineOf(2, box(5, 0, 40, 1), 2, 8)),
		box(0, 0, 5, 4), rows(0, 1), box(5, 0, 9, 1), box(0, 4, 3, 6), box(9, 0, 13, 1))
	lined(t, page(float(1, api.Left, 5, 4), text(1, 0, 0), atom(2, 4, 1), clearing(api.Right, float(2, api.Left, 3, 2)), atom(2, 4, 1)), 4,
		lines(lineOf(2, box(8, 0, 40, 1), 2, 8)),
		box(0, 0, 5, 4), rows(0, 1), box(8, 0, 12, 1), box(5, 0, 8, 2), box(12, 0, 16, 1))
}

// A Float among Atoms has margins, edges, and the height of its content, as any other one.
func TestFloatsAmongAtomsHaveMargins(t *testing.T) {
	f := framed(float(2, api.Left, 3, 2), [4]int{1, 2, 3, 4}, [4]int{5, 6, 7, 8}) // 23 wide, 18 high
	for _, x := range []struct{ height, bottom int }{{2, 15}, {api.Auto, 44}, {0, 13}} {
		in := asked(t, page(text(1, 0, 0), atom(2, 4, 1), high(x.height, f), atom(2, 5, 1)), 9, 9, 9, 31, 9)
		want := flow.Output{
			Boxes: []flow.Placed{
				{At: 1, Box: rows(0, 1)}, {At: 2, Box: box(23, 0, 27, 1)}, {At: 3, Box: box(4, 1, 21, x.bottom)}, {At: 4, Box: box(27, 0, 32, 1)},
			},
			Lines:  lines(lineOf(1, box(23, 0, 40, 1), 2, 9)),
			Height: x.bottom + 3,
		}
		answers(t, in, 0, want)
	}
}

// A Text without an Atom is as a Block: its Floats are placed where it would be.
func TestTextsWithoutAtoms(t *testing.T) {
	lays(t, page(text(1, 3, 8), float(2, api.Left, 5, 4), float(2, api.Right, 5, 2), high(1, block(1, 9, 0))), 10,
		rows(3, 3), box(0, 3, 5, 7), box(35, 3, 40, 5), rows(9, 10))
	lays(t, page(block(1, 0, 0), text(2, 0, 0), float(3, api.Left, 5, 4), clearing(api.Left, high(1, block(2, 3, 0)))), 5,
		rows(0, 5), rows(0, 0), box(0, 0, 5, 4), rows(4, 5))
	lays(t, page(edged(1, 2, text(1, 3, 8)), float(2, api.Left, 5, 4)), 14, rows(3, 6), box(0, 4, 5, 8))
	lays(t, page(high(7, text(1, 3, 8)), float(2, api.Left, 5, 4)), 18, rows(3, 10), box(0, 3, 5, 7))
}

// A Text whose Clear clears Floats that wait is moved as a Block is.
func TestTextsThatClear(t *testing.T) {
	lined(t, page(block(1, 3, 0), float(2, api.Left, 5, 4), clearing(api.Left, text(2, 2, 0)), float(3, api.Right, 6, 2), atom(3, 4, 1)), 9,
		lines(lineOf(3, box(0, 7, 34, 8), 1, 4)),
		rows(3, 8), box(0, 3, 5, 7), rows(7, 8), box(34, 7, 40, 9), box(0, 7, 4, 8))
	lined(t, page(block(1, 3, 0), float(2, api.Left, 5, 4), clearing(api.Right, text(2, 2, 0)), float(3, api.Right, 6, 2), atom(3, 4, 1)), 7,
		lines(lineOf(3, box(5, 3, 34, 4), 1, 4)),
		rows(3, 4), box(0, 3, 5, 7), rows(3, 4), box(34, 3, 40, 5), box(5, 3, 9, 4))
}

// Lines are those of the context's Texts, each with its Text's place: one Text's in order, one Text behind the other.
func TestLinesOfSeveralTexts(t *testing.T) {
	lined(t, page(
		block(1, 0, 0), text(2, 0, 0), atom(3, 30, 1), atom(3, 20, 2), // 1 to 4
		float(2, api.Right, 8, 9), text(3, 0, 0), atom(4, 7, 1), // 5 to 7
		text(2, 0, 0), atom(3, 30, 1), float(3, api.Left, 3, 1), atom(3, 5, 1), // 8 to 11
		root(1, api.Auto, 2, 0, 0), text(2, 0, 0), atom(3, 7, 1), // 12 to 14
		text(1, 0, 0),                // 15
		text(1, 1, 0), atom(2, 1, 1), // 16 and 17
	), 16,
		lines(lineOf(2, rows(0, 1), 1, 30), lineOf(2, rows(1, 3), 1, 20), lineOf(8, box(0, 3, 32, 4), 1, 30), lineOf(8, box(3, 4, 32, 5), 1, 5), lineOf(16, rows(15, 16), 1, 1)),
		rows(0, 5), rows(0, 3), box(0, 0, 30, 1), box(0, 1, 20, 3),
		box(32, 3, 40, 12),
		rows(3, 5), box(0, 3, 30, 4), box(0, 4, 3, 5), box(3, 4, 8, 5),
		box(0, 12, 40, 14), rows(14, 14), rows(15, 16), box(0, 15, 1, 16))
}

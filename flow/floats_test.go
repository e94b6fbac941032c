package flow_test

import (
	"testing"

	"runaround/api"
	"runaround/flow"
)

// sides has both sides of floats.
func sides() []int { return []int{api.Left, api.Right} }

// atSide gives the box of a float in the page that stands so far off its side.
func atSide(side, off, top, wide, height int) api.Rect {
	if side == api.Left {
		return box(off, top, off+wide, top+height)
	}
	return box(40-off-wide, top, 40-off, top+height)
}

// A Float in a box that isn't loose is placed where the spot is, with the margins up to it, and moves nothing.
func TestFloatsWhereNothingIsLoose(t *testing.T) {
	for _, side := range sides() {
		f, within := float(1, side, 5, 4), float(2, side, 5, 4)
		at := func(top int) api.Rect { return atSide(side, 0, top, 5, 4) }
		lays(t, page(f), 4, at(0))
		lays(t, page(high(5, block(1, 0, 3)), f, high(2, block(1, 10, 0))), 17, rows(0, 5), at(8), rows(15, 17))
		lays(t, page(high(5, block(1, 0, -3)), f), 6, rows(0, 5), at(2))
		lays(t, page(block(1, 2, 7), f, block(1, 9, 0)), 11, rows(2, 2), at(7), rows(9, 9))
		lays(t, page(edged(1, 0, block(1, 3, 0)), within, high(2, block(2, 10, 0))), 16, rows(3, 16), at(4), rows(14, 16))
		lays(t, page(block(1, 3, 0), high(1, block(2, 5, 6)), within), 16, rows(5, 6), rows(5, 6), at(12))
		lays(t, page(edged(2, 0, block(1, 3, 8)), within), 13, rows(3, 5), at(5))
	}
}

// A Float in a box that is loose waits, and is placed where that begins, whatever margins come behind the Float.
func TestFloatsWait(t *testing.T) {
	for _, side := range sides() {
		two, three := float(2, side, 5, 4), float(3, side, 5, 4)
		at := func(top int) api.Rect { return atSide(side, 0, top, 5, 4) }
		lays(t, page(block(1, 3, 0), two, high(2, block(2, 7, 0))), 11, rows(7, 9), at(7), rows(7, 9))
		lays(t, page(block(1, 3, 0), two, high(2, block(2, -1, 0))), 6, rows(2, 4), at(2), rows(2, 4))
		lays(t, page(block(1, 3, 0), block(2, 1, 0), three, block(2, 6, 0), high(1, text(3, 2, 0))), 10,
			rows(6, 7), rows(6, 6), at(6), rows(6, 7), rows(6, 7))
		// In a box that is left with nothing in it: where all around is left, or closes.
		lays(t, page(block(1, 3, 8), two, high(1, block(1, 1, 0))), 9, rows(3, 3), at(3), rows(8, 9))
		lays(t, page(text(1, 3, 8), two, high(1, block(1, 1, 0))), 9, rows(3, 3), at(3), rows(8, 9))
		lays(t, page(block(1, 3, 8), block(2, 9, 2), three), 13, rows(9, 9), rows(9, 9), at(9))
		lays(t, page(edged(0, 2, block(1, 3, 8)), two, block(2, 6, 0)), 16, rows(6, 8), at(6), rows(6, 6))
		lays(t, page(high(0, block(1, 3, 8)), two, block(2, 6, 0)), 14, rows(6, 6), at(6), rows(6, 6))
		lays(t, page(block(1, 3, 8), two, edged(1, 0, block(2, 6, 0))), 15, rows(6, 7), at(6), rows(6, 7))
	}
}

// Floats that wait are placed in the order in which they began to, in whatever boxes they stand; each from there on.
func TestFloatsThatWaitKeepTheirOrder(t *testing.T) {
	lays(t, page(
		block(1, 3, 0), float(2, api.Left, 5, 4), block(2, 1, 1), float(3, api.Left, 6, 2), block(2, 0, 0), float(3, api.Right, 7, 9),
		float(2, api.Left, 8, 1), high(1, block(2, 5, 0)),
	), 14, rows(5, 6), box(0, 5, 5, 9), rows(5, 5), box(5, 5, 11, 7), rows(5, 5), box(33, 5, 40, 14), box(11, 5, 19, 6), rows(5, 6))
	lays(t, page(
		block(1, 3, 0), float(2, api.Left, 30, 4), float(2, api.Right, 20, 2), float(2, api.Left, 3, 1), high(1, block(2, 5, 0)),
	), 11, rows(5, 6), box(0, 5, 30, 9), box(20, 9, 40, 11), box(0, 9, 3, 10), rows(5, 6))
	// One behind what stands there begins to wait no more.
	lays(t, page(block(1, 3, 0), float(2, api.Left, 5, 4), high(1, block(2, 5, 0)), float(2, api.Left, 6, 2)), 9,
		rows(5, 6), box(0, 5, 5, 9), rows(5, 6), box(5, 6, 11, 8))
	// Once all is settled floats wait anew, in the next box that is loose.
	lays(t, page(block(1, 3, 4), float(2, api.Left, 5, 4), block(1, 6, 0), float(2, api.Left, 5, 4), high(1, block(2, 9, 0))), 13,
		rows(3, 3), box(0, 3, 5, 7), rows(9, 10), box(0, 9, 5, 13), rows(9, 10))
}

// What a Float clears: it is placed below that, whether it waited or not.
func TestFloatsThatClear(t *testing.T) {
	for _, side := range sides() {
		for clear, x := range []struct{ top, left, right int }{{0, 5, 6}, {4, 0, 6}, {7, 0, 0}, {7, 0, 0}} {
			off := []int{0, x.left, x.right}[side]
			one := clearing(clear, float(1, side, 3, 2))
			two := clearing(clear, float(2, side, 3, 2))
			lays(t, page(float(1, api.Left, 5, 4), float(1, api.Right, 6, 7), one), max(7, x.top+2),
				box(0, 0, 5, 4), box(34, 0, 40, 7), atSide(side, off, x.top, 3, 2))
			lays(t, page(block(1, 3, 0), float(2, api.Left, 5, 4), float(2, api.Right, 6, 7), two, high(1, block(2, 5, 0))), max(12, x.top+7),
				rows(5, 6), box(0, 5, 5, 9), box(34, 5, 40, 12), atSide(side, off, 5+x.top, 3, 2), rows(5, 6))
		}
	}
}

// A Float has margins and edges all round: its margin box is placed, its own box is told. Margins below 0 make its
// margin box smaller, up to one without a point, beside which the next one stands as beside none.
func TestFloatsMargins(t *testing.T) {
	edges := [4]int{5, 6, 7, 8}
	for _, x := range []struct {
		margins     [4]int
		left, right api.Rect // its box, as a left one and as a right one
		off, height int      // how far its margin box reaches, and how low
	}{
		{[4]int{1, 2, 3, 4}, box(4, 1, 27, 23), box(15, 1, 38, 23), 29, 26},
		{[4]int{0, 0, 0, 0}, box(0, 0, 23, 22), box(17, 0, 40, 22), 23, 22},
		{[4]int{-1, -2, -3, -4}, box(-4, -1, 19, 21), box(19, -1, 42, 21), 17, 18},
		{[4]int{9, -23, 0, 0}, box(0, 9, 23, 31), box(40, 9, 63, 31), 0, 31},
		{[4]int{0, 0, 0, -30}, box(-30, 0, -7, 22), box(17, 0, 40, 22), 0, 22},
		{[4]int{0, 0, -22, 0}, box(0, 0, 23, 22), box(17, 0, 40, 22), 0, 0},
		{[4]int{-50, 0, 0, 0}, box(0, -50, 23, -28), box(17, -50, 40, -28), 0, -28},
	} {
		for _, side := range sides() {
			b := []api.Rect{{}, x.left, x.right}[side]
			one := framed(float(1, side, 9, 10), x.margins, edges)
			lays(t, page(one, float(1, side, 1, 1)), max(x.height, 1), b, atSide(side, x.off, 0, 1, 1))
			two := framed(float(2, side, 9, 10), x.margins, edges)
			lower := box(b.Left, b.Top+5, b.Right, b.Bottom+5)
			lays(t, page(block(1, 3, 0), two, float(2, side, 1, 1), high(1, block(2, 5, 0))), max(x.height, 1)+5,
				rows(5, 6), lower, atSide(side, x.off, 5, 1, 1), rows(5, 6))
		}
	}
}

// A Float of the Height Auto has a content as high as Heights has it; one of another Height has that.
func TestFloatsHeights(t *testing.T) {
	for _, heights := range [][]int{{0, 0, 0}, {0, 8, 0}, {99, 3, 99}, {0, 1 << 47, 0}} {
		f := edged(1, 2, float(1, api.Left, 5, api.Auto))
		tall := heights[1] + 3
		want := flow.Output{Boxes: []flow.Placed{{At: 1, Box: box(0, 0, 5, tall)}, {At: 2, Box: rows(tall, tall)}}, Height: tall}
		answers(t, asked(t, page(f, clearing(api.Left, block(1, 0, 0))), heights...), 0, want)
		want.Boxes[0].Box.Bottom, want.Boxes[1].Box, want.Height = 7, rows(7, 7), 7
		answers(t, asked(t, page(high(4, f), clearing(api.Left, block(1, 0, 0))), heights...), 0, want)
		want.Boxes[0].Box.Bottom, want.Boxes[1].Box, want.Height = 3, rows(3, 3), 3
		answers(t, asked(t, page(high(0, f), clearing(api.Left, block(1, 0, 0))), heights...), 0, want)
	}
}

// A Float stands in the columns of the content around, whether it waits or not; a wider one reaches over their other end.
func TestFloatsColumns(t *testing.T) {
	around := framed(high(30, block(1, 0, 0)), [4]int{0, 0, 0, 3}, [4]int{0, 0, 0, 2}) // 5 to 15
	around.Width = 10
	for _, x := range []struct{ wide, left, right int }{{4, 5, 11}, {10, 5, 5}, {12, 5, 3}, {50, 5, -35}, {0, 5, 15}} {
		for _, side := range sides() {
			from := []int{0, x.left, x.right}[side]
			f := box(from, 0, from+x.wide, 2)
			lays(t, page(around, float(2, side, x.wide, 2)), 30, box(3, 0, 15, 30), f)
			f = box(from, 1, from+x.wide, 3)
			lays(t, page(edged(1, 0, around), float(2, side, x.wide, 2)), 31, box(3, 0, 15, 31), f)
		}
	}
}

// A box whose Clear clears the sides of Floats that wait: all is settled ahead of its own margin. Another one's margin
// moves the Floats, too.
func TestClearOfFloatsThatWait(t *testing.T) {
	for _, side := range sides() {
		for clear := range 4 {
			for _, x := range []struct{ margin, top, collapsed int }{
				{2, 7, 3}, {3, 7, 3}, {4, 7, 4}, {5, 8, 5}, {9, 12, 9}, {0, 7, 3}, {-1, 7, 2}, {-9, 7, -6},
			} {
				for _, b := range []api.Box{high(1, block(2, x.margin, 0)), high(1, text(2, x.margin, 0))} {
					l := page(block(1, 3, 0), float(2, side, 5, 4), clearing(clear, b))
					if clear == side || clear == api.Both {
						lays(t, l, x.top+1, rows(3, x.top+1), atSide(side, 0, 3, 5, 4), rows(x.top, x.top+1))
						continue
					}
					y := x.collapsed
					lays(t, l, max(y+4, 0), rows(y, y+1), atSide(side, 0, y, 5, 4), rows(y, y+1))
				}
			}
		}
	}
}

// The sides are those of all Floats that wait, in whatever box; and of none that waited once.
func TestSidesOfFloatsThatWait(t *testing.T) {
	lays(t, page(block(1, 3, 0), block(2, 1, 0), float(3, api.Left, 5, 4), block(2, 0, 0), clearing(api.Left, high(1, block(3, 2, 0)))), 8,
		rows(3, 8), rows(3, 3), box(0, 3, 5, 7), rows(3, 8), rows(7, 8))
	both := page(block(1, 3, 0), float(2, api.Left, 5, 4), float(2, api.Right, 5, 9), clearing(api.Left, high(1, block(2, 2, 0))), clearing(api.Right, high(1, block(2, 2, 0))))
	lays(t, both, 13, rows(3, 13), box(0, 3, 5, 7), box(35, 3, 40, 12), rows(7, 8), rows(12, 13))
	both[4].Clear, both[5].Clear = api.Right, api.Left
	lays(t, both, 16, rows(3, 16), box(0, 3, 5, 7), box(35, 3, 40, 12), rows(12, 13), rows(15, 16))
	// The left one waits no more as the second box comes, so its margin is the right one's, too.
	lays(t, page(block(1, 3, 0), float(2, api.Left, 5, 4), block(1, 8, 0), float(2, api.Right, 5, 9), clearing(api.Left, high(1, block(2, 20, 0)))), 29,
		rows(3, 3), box(0, 3, 5, 7), rows(20, 21), box(35, 20, 40, 29), rows(20, 21))
	// What stands in a box's own content isn't ahead of it.
	lays(t, page(clearing(api.Both, block(1, 3, 0)), float(2, api.Left, 5, 4), high(1, block(2, 5, 0))), 9,
		rows(5, 6), box(0, 5, 5, 9), rows(5, 6))
}

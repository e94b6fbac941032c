package layout_test

import (
	"testing"

	"runaround/api"
	"runaround/layout"
)

// inside gives a first box whose content is so wide, and begins at 2, 1, and others that stand in it.
func inside(wide int, l ...api.Box) []api.Box {
	l = page(sides(1, 0, 0, 2), l...)
	l[0].Width = wide
	return l
}

// whole tells it if what stands in a first box as inside makes it, and is so high there, isn't where it is told to be.
func whole(t *testing.T, l []api.Box, high int, boxes []api.Rect, lines ...layout.Line) {
	t.Helper()
	stands(t, l, append([]api.Rect{box(0, 0, l[0].Width+2, high+1)}, boxes...), lines...)
}

// The first example of the whole: two left floats without room side by side.
func TestFloatsBelowEachOther(t *testing.T) {
	f := float(1, api.Left, 3, 2)
	whole(t, inside(5, f, f), 4, []api.Rect{box(2, 1, 5, 3), box(2, 3, 5, 5)})
	whole(t, inside(6, f, f), 2, []api.Rect{box(2, 1, 5, 3), box(5, 1, 8, 3)})
}

// The second one: a right float and a left one, side by side.
func TestFloatsSideBySide(t *testing.T) {
	right, left := float(1, api.Right, 3, 2), float(1, api.Left, 3, 2)
	whole(t, inside(6, right, left), 2, []api.Rect{box(5, 1, 8, 3), box(2, 1, 5, 3)})
	whole(t, inside(5, right, left), 4, []api.Rect{box(4, 1, 7, 3), box(2, 3, 5, 5)})
}

// The third one: a float that is wider than its content stands at its own side.
func TestFloatBeyondTheOtherSide(t *testing.T) {
	whole(t, inside(10, float(1, api.Left, 12, 2)), 2, []api.Rect{box(2, 1, 14, 3)})
	whole(t, inside(10, float(1, api.Right, 12, 2)), 2, []api.Rect{box(0, 1, 12, 3)})
}

// The fourth one: margins above 0 and below 0, together.
func TestBlocksApart(t *testing.T) {
	above, below := framed(block(1, 5), sides(0, 0, 3, 0), [4]int{}), framed(block(1, 5), sides(-1, 0, 0, 0), [4]int{})
	whole(t, inside(10, above, below), 12, []api.Rect{box(2, 1, 12, 6), box(2, 8, 12, 13)})
}

// The fifth one: a Block that clears a float is moved to its bottom, if it would stand above that.
func TestBlockClears(t *testing.T) {
	b := block(1, 1)
	b.Clear = api.Left
	for _, x := range []struct{ ahead, stands int }{{8, 10}, {9, 10}, {10, 10}, {11, 11}} {
		l := inside(10, float(1, api.Left, 3, 10), block(1, x.ahead), b)
		whole(t, l, x.stands+1, []api.Rect{box(2, 1, 5, 11), box(2, 1, 12, 1+x.ahead), box(2, 1+x.stands, 12, 2+x.stands)})
	}
}

// The sixth one: a Root that has no room beside a float stands below it.
func TestRootBelowAFloat(t *testing.T) {
	b := root(1, 2)
	whole(t, inside(10, float(1, api.Left, 3, 4), b), 6, []api.Rect{box(2, 1, 5, 5), box(2, 5, 12, 7)})
	b.Width = 7
	whole(t, inside(10, float(1, api.Left, 3, 4), b), 4, []api.Rect{box(2, 1, 5, 5), box(5, 1, 12, 3)})
}

// The seventh one: a line beside a float begins at its right edge, and has the fewer atoms.
func TestLineBesideAFloat(t *testing.T) {
	a := atom(2, 4, 1)
	whole(t, inside(12, float(1, api.Left, 3, 1), text(1), a, a, a), 2, []api.Rect{
		box(2, 1, 5, 2), box(2, 1, 14, 3), box(5, 1, 9, 2), box(9, 1, 13, 2), box(2, 2, 6, 3),
	}, lineOf(2, box(5, 1, 14, 2), 3, 2), lineOf(2, box(2, 2, 14, 3), 5, 1))
	whole(t, inside(12, text(1), a, a, a), 1, []api.Rect{
		box(2, 1, 14, 2), box(2, 1, 6, 2), box(6, 1, 10, 2), box(10, 1, 14, 2),
	}, lineOf(1, box(2, 1, 14, 2), 2, 3))
}

// The eighth one: a float between atoms stands at the line's top, if there is room beside it; else below the line.
func TestFloatBetweenAtoms(t *testing.T) {
	whole(t, inside(10, text(1), atom(2, 4, 1), float(2, api.Left, 3, 1), atom(2, 3, 1)), 1, []api.Rect{
		box(2, 1, 12, 2), box(5, 1, 9, 2), box(2, 1, 5, 2), box(9, 1, 12, 2),
	}, lineOf(1, box(5, 1, 12, 2), 2, 2))
	whole(t, inside(10, text(1), atom(2, 8, 1), float(2, api.Left, 3, 1), atom(2, 2, 1)), 2, []api.Rect{
		box(2, 1, 12, 2), box(2, 1, 10, 2), box(2, 2, 5, 3), box(10, 1, 12, 2),
	}, lineOf(1, box(2, 1, 12, 2), 2, 2))
}

// The ninth one: a Float of Auto is as high as the float in it.
func TestFloatAroundAFloat(t *testing.T) {
	whole(t, inside(10, float(1, api.Left, 5, api.Auto), float(2, api.Right, 2, 7)), 7, []api.Rect{box(2, 1, 7, 8), box(5, 1, 7, 8)})
}

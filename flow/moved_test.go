package flow_test

import (
	"testing"

	"runaround/api"
)

// left gives a box that clears left floats.
func left(b api.Box) api.Box { return clearing(api.Left, b) }

// moving is a box that would stand above 20, where a left float ends, with what stands in it: where it ends, where a
// Block stands behind it whose margin above is 1, and where what stands in it is.
type moving struct {
	l              []api.Box
	bottom, behind int
	within         []api.Rect
}

// movedBoxes gives boxes that are moved.
func movedBoxes() []moving {
	one := func(b api.Box) []api.Box { return []api.Box{left(b)} }
	in := func(l ...api.Box) []api.Box { return append(one(block(1, 3, 4)), l...) }
	return []moving{
		// Nothing stands there: its margins collapse, and the box is where they would have moved it.
		{one(block(1, 3, 4)), 20, 21, nil}, // from 17 on 4
		{one(block(1, 4, 3)), 20, 20, nil},
		{one(block(1, -3, 4)), 20, 24, nil}, // from 23 on 4 and -3
		{one(block(1, 3, -1)), 20, 19, nil},
		{one(block(1, -3, -1)), 20, 21, nil},
		{one(block(1, 0, 0)), 20, 21, nil},
		{one(text(1, 3, 9)), 20, 26, nil},
		// Its Height, or an edge, stands there: its margins are apart.
		{one(high(5, block(1, 3, 4))), 25, 29, nil},
		{one(high(5, block(1, -30, -4))), 25, 22, nil},
		{one(high(0, block(1, 3, 4))), 20, 24, nil},
		{one(edged(0, 2, block(1, 3, 4))), 22, 26, nil},
		{one(edged(2, 0, block(1, 3, 4))), 22, 26, nil},
		{one(edged(2, 3, high(5, block(1, 3, 4)))), 30, 34, nil},
		// Boxes in it are at its top, whatever margins they have.
		{in(high(5, block(2, 7, 6))), 25, 31, []api.Rect{rows(20, 25)}},
		{in(high(5, block(2, -7, -6))), 25, 23, []api.Rect{rows(20, 25)}},
		{in(block(2, 7, 6)), 20, 20, []api.Rect{rows(20, 20)}},
		{in(block(2, -7, -6)), 20, 21, []api.Rect{rows(20, 20)}},
		{in(block(2, 7, 6), high(1, block(2, 8, 0))), 21, 25, []api.Rect{rows(20, 20), rows(20, 21)}},
		{in(block(2, 7, 6), edged(0, 2, block(3, 1, 5))), 22, 28, []api.Rect{rows(20, 22), rows(20, 22)}},
		{in(float(2, api.Left, 5, 3)), 20, 21, []api.Rect{box(0, 20, 5, 23)}},
		{in(float(2, api.Left, 5, 3), high(1, block(2, 9, 0))), 21, 25, []api.Rect{box(0, 20, 5, 23), rows(20, 21)}},
		{in(block(2, 9, 0), float(3, api.Left, 5, 3), block(3, 8, 9)), 20, 20, []api.Rect{rows(20, 20), box(0, 20, 5, 23), rows(20, 20)}},
		{in(root(2, 10, 5, 7, 6)), 25, 31, []api.Rect{box(0, 20, 10, 25)}},
		{append(one(edged(0, 2, block(1, 3, 4))), block(2, 7, 6)), 22, 26, []api.Rect{rows(20, 20)}},
		{append(one(high(0, block(1, 3, 4))), block(2, 7, 6)), 20, 24, []api.Rect{rows(20, 20)}},
		{append(one(edged(2, 0, block(1, 3, 4))), high(1, block(2, 7, 6))), 30, 36, []api.Rect{rows(29, 30)}},
	}
}

// A box that would stand above the bottom of what it clears is moved down there.
func TestMoved(t *testing.T) {
	for _, x := range movedBoxes() {
		l := append(page(float(1, api.Left, 5, 20)), x.l...)
		l = append(l, high(2, block(1, 1, 0)))
		boxes := append([]api.Rect{box(0, 0, 5, 20), rows(20, x.bottom)}, x.within...)
		height := x.behind + 2
		for i, b := range x.l {
			if b.Kind == api.Float {
				height = max(height, x.within[i-1].Bottom)
			}
		}
		lays(t, l, height, append(boxes, rows(x.behind, x.behind+2))...)
	}
}

// A Text that is moved has its lines there.
func TestMovedText(t *testing.T) {
	lined(t, page(float(1, api.Left, 5, 20), left(text(1, 3, 4)), atom(2, 6, 2), high(2, block(1, 1, 0))), 28,
		lines(lineOf(2, rows(20, 22), 1, 6)), box(0, 0, 5, 20), rows(20, 22), box(0, 20, 6, 22), rows(26, 28))
}

// A box around one that is moved begins where it would have, without that one's margins. Where nothing stands in the
// one that is moved, the spot is held: the box around ends behind its margins, which don't collapse with its own one.
func TestBoxAroundWhatIsMoved(t *testing.T) {
	float := float(1, api.Left, 5, 20)
	next := high(2, block(1, 1, 0))
	lays(t, page(float, block(1, 1, 9), left(block(2, 3, 4)), next), 32, box(0, 0, 5, 20), rows(1, 21), rows(20, 20), rows(30, 32))
	lays(t, page(float, block(1, 1, 9), left(block(2, 3, -4)), next), 27, box(0, 0, 5, 20), rows(1, 16), rows(20, 20), rows(25, 27))
	lays(t, page(float, block(1, 1, 9), left(high(5, block(2, 3, 4))), next), 36, box(0, 0, 5, 20), rows(1, 25), rows(20, 25), rows(34, 36))
	// The margins of an empty box behind it are held, too; those behind something that stands aren't.
	lays(t, page(float, block(1, 1, 9), left(block(2, 3, 4)), block(2, 6, 2), next), 34,
		box(0, 0, 5, 20), rows(1, 23), rows(20, 20), rows(23, 23), rows(32, 34))
	lays(t, page(float, block(1, 1, 9), left(block(2, 3, 4)), high(1, block(2, 6, 2)), next), 35,
		box(0, 0, 5, 20), rows(1, 24), rows(20, 20), rows(23, 24), rows(33, 35))
	// Boxes around that one end there, too, and the one around those collapses with them.
	lays(t, page(float, block(1, 1, 9), block(2, 2, 5), left(block(3, 3, 4)), next), 32,
		box(0, 0, 5, 20), rows(2, 21), rows(2, 21), rows(20, 20), rows(30, 32))
	// What a box around clears is looked for in it as well: both are moved, the inner one no further.
	lays(t, page(float, left(block(1, 1, 9)), left(block(2, 3, 4)), next), 27, box(0, 0, 5, 20), rows(20, 20), rows(20, 20), rows(25, 27))
}

// A box in one that was moved may be moved once more: what stands in the outer one then is that.
func TestMovedTwice(t *testing.T) {
	floats := []api.Box{float(1, api.Left, 5, 20), float(1, api.Right, 5, 30)}
	for _, x := range []struct{ below, bottom int }{{6, 30}, {16, 39}, {-6, 24}, {-60, 20}} {
		l := page(append(floats, left(block(1, 3, 4)), clearing(api.Right, block(2, 7, x.below)), high(2, block(1, 1, 0)))...)
		next := x.bottom + 4
		lays(t, l, max(next+2, 30), box(0, 0, 5, 20), box(35, 0, 40, 30), rows(20, x.bottom), rows(30, 30), rows(next, next+2))
	}
}

// Behind a box that was moved, and in which nothing stands, comes a Float, a Root, or a line of atoms: where its margins
// come to.
func TestBehindWhatIsMoved(t *testing.T) {
	l := page(float(1, api.Left, 5, 20), left(block(1, 3, 4)))
	a, b := box(0, 0, 5, 20), rows(20, 20)
	lays(t, append(l, float(1, api.Right, 5, 4)), 25, a, b, box(35, 21, 40, 25))
	lays(t, append(l, block(1, 9, 0), float(2, api.Right, 5, 4), edged(1, 0, block(2, 12, 0))), 33,
		a, b, rows(29, 30), box(35, 29, 40, 33), rows(29, 30))
	lays(t, append(l, root(1, 10, 4, 8, 0)), 29, a, b, box(0, 25, 10, 29))
	lined(t, append(l, text(1, 9, 1), atom(2, 6, 2)), 29, lines(lineOf(3, rows(26, 28), 1, 6)), a, b, rows(26, 28), box(0, 26, 6, 28))
	lays(t, append(l, left(block(1, 9, 1)), high(1, block(1, 0, 0))), 27, a, b, rows(26, 26), rows(26, 27))
}

// Each clear, and floats of both sides: a box is moved to the lowest bottom of what it clears, and by nothing else.
func TestWhatMoves(t *testing.T) {
	for clear, bottom := range []int{0, 6, 9, 9} {
		for margin := -2; margin < 12; margin++ {
			for _, b := range []api.Box{high(1, block(1, margin, 0)), high(1, text(1, margin, 0))} {
				top := margin
				if clear != api.None {
					top = max(margin, bottom)
				}
				lays(t, page(float(1, api.Left, 5, 6), float(1, api.Right, 5, 9), float(1, api.Left, 5, 2), clearing(clear, b)), max(9, top+1),
					box(0, 0, 5, 6), box(35, 0, 40, 9), box(5, 0, 10, 2), rows(top, top+1))
			}
		}
	}
}

// A float's bottom may be at the top of the content, or above it; where there is none, nothing moves.
func TestBottomsAtTheTop(t *testing.T) {
	for _, x := range []struct{ below, margin, top int }{{-4, -1, 0}, {-4, 0, 0}, {-6, -3, -2}, {-6, -2, -2}, {-6, -1, -1}} {
		f := framed(float(1, api.Right, 5, 4), [4]int{0, 0, x.below, 0}, [4]int{})
		b := high(0, block(1, x.margin, 0))
		lays(t, page(f, clearing(api.Right, b)), 0, box(35, 0, 40, 4), rows(x.top, x.top))
		lays(t, page(f, left(b)), 0, box(35, 0, 40, 4), rows(x.margin, x.margin))
		lays(t, page(clearing(api.Both, b)), 0, rows(x.margin, x.margin))
	}
}

// Looking into a box comes to a spot above the bottom of what it clears, just at it, or below it: where nothing stands
// in the box, a box around shows whether it was moved.
func TestAboveAtAndBelow(t *testing.T) {
	a := box(0, 0, 5, 8)
	for _, x := range []struct {
		margin                   int
		outer, inner             api.Rect
		behind, height, unheld   int
		innerHigh, outerWithHigh api.Rect
	}{
		{7, rows(0, 8), rows(8, 8), 18, 19, 19, rows(8, 9), rows(0, 9)},
		{8, rows(8, 8), rows(8, 8), 10, 11, 19, rows(8, 9), rows(8, 9)},
		{9, rows(9, 9), rows(9, 9), 10, 11, 20, rows(9, 10), rows(9, 10)},
	} {
		next := high(1, block(1, 10, 0))
		l := page(float(1, api.Left, 5, 8), block(1, 0, 0), left(block(2, x.margin, 3)), next)
		lays(t, l, x.height, a, x.outer, x.inner, rows(x.behind, x.behind+1))
		l[3].Height = 1
		lays(t, l, x.unheld+1, a, x.outerWithHigh, x.innerHigh, rows(x.unheld, x.unheld+1))
	}
}

// Looking into a box gets the margins of boxes in it, too, up to where something stands.
func TestMarginsWithinKeepABoxFromBeingMoved(t *testing.T) {
	for _, x := range []struct{ margin, outer, inner int }{{6, 8, 8}, {7, 8, 8}, {8, 8, 8}, {9, 9, 9}, {20, 20, 20}} {
		a := box(0, 0, 5, 8)
		lays(t, page(float(1, api.Left, 5, 8), left(block(1, 1, 0)), high(1, block(2, x.margin, 0))), x.inner+1,
			a, rows(x.outer, x.inner+1), rows(x.inner, x.inner+1))
		lays(t, page(float(1, api.Left, 5, 8), left(block(1, 1, 0)), block(2, 0, 0), text(3, -1, 0), high(1, block(2, x.margin+1, 0))), x.inner+1,
			a, rows(x.outer, x.inner+1), rows(x.outer, x.outer), rows(x.outer, x.outer), rows(x.inner, x.inner+1))
		// Its top edge stands there already: the margins below that don't count.
		lays(t, page(float(1, api.Left, 5, 8), left(edged(2, 0, block(1, 1, 0))), high(1, block(2, x.margin, 0))), 11+x.margin,
			a, rows(8, 11+x.margin), rows(10+x.margin, 11+x.margin))
	}
}

// Looking into a box knows the sides of the Floats that wait: a box in it that clears those ends the look.
func TestLookKnowsWhatWaits(t *testing.T) {
	l := page(
		float(1, api.Left, 5, 8), block(1, 0, 0), float(2, api.Right, 5, 3),
		left(block(2, 1, 0)), clearing(api.Right, high(1, block(3, 9, 0))),
	)
	lays(t, l, 9, box(0, 0, 5, 8), rows(0, 9), box(35, 0, 40, 3), rows(8, 9), rows(8, 9))
	l[5].Clear = api.None
	lays(t, l, 12, box(0, 0, 5, 8), rows(9, 10), box(35, 9, 40, 12), rows(9, 10), rows(9, 10))
}

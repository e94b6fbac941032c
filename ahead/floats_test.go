package ahead_test

import (
	"math"
	"slices"
	"testing"

	"runaround/ahead"
	"runaround/api"
	"runaround/space"
	"runaround/spot"
	"runaround/strut"
	"runaround/tree"
)

// Looking past a box that clears a float of the space: the look ends as it was ahead, if the one into the box comes to
// a spot above the float's bottom; at that, and below it, it goes on.
func TestPastWhatClearsFloats(t *testing.T) {
	for _, x := range []struct {
		from ahead.Look
		at   int // where the look into the box stands
	}{
		{open(10, 0), 13},
		{open(10, api.Right, 2), 13},
		{open(10, 0, 9), 19},
		{open(10, 0, -4), 9},
		{open(-10, 0), -7},
		{held(open(10, 0)), 13},
		{held(open(10, api.Right, -4)), 9},
		{spent(open(10, 0)), 10},
		{spent(open(10, 0, 9)), 10},
		{spent(open(10, api.Right, -4)), 10},
		{held(spent(open(10, 0, 9))), 10},
	} {
		into, past := x.from, x.from
		into.Spot.Strut = into.Spot.Strut.With(3)
		past.Spot.Strut = into.Spot.Strut.With(40)
		left := x.from
		left.Ended = true
		for _, kind := range []int{api.Block, api.Text} {
			tr := built(t, clearing(api.Left, flowing(1, kind, 3, 40)))
			for _, bottom := range []int{x.at + 1, x.at + 2, x.at + 900} {
				looks(t, tr, one(api.Left, bottom), 1, x.from, into, left)
			}
			for _, bottom := range []int{x.at, x.at - 1, x.at - 900} {
				looks(t, tr, one(api.Left, bottom), 1, x.from, into, past)
			}
			looks(t, tr, one(api.Right, x.at+900), 1, x.from, into, past)
			looks(t, tr, space.New(), 1, x.from, into, past)
		}
	}
}

// Each clear, and floats of both sides: the lowest bottom of what it clears counts, of floats that aren't full, too.
func TestBottomsByWhatIsCleared(t *testing.T) {
	s := space.New()
	s.Put(api.Left, api.Rect{Left: 0, Top: 0, Right: 3, Bottom: 20})
	s.Put(api.Right, api.Rect{Left: 9, Top: 40, Right: 9, Bottom: 30})
	s.Put(api.Left, api.Rect{Left: 0, Top: 40, Right: 3, Bottom: 15})
	for clear, bottom := range []int{-900, 20, 30, 30} {
		tr := built(t, clearing(clear, block(1, 3, 40)))
		for y := range 40 {
			past := open(y, 0, 3, 40)
			if y+3 < bottom {
				past = ended(y, 0)
			}
			looks(t, tr, s, 1, open(y, 0), open(y, 0, 3), past)
		}
	}
}

// A bottom of 0, and one above it, are bottoms like any other: that there is no float isn't the same as one there.
func TestBottomsAtAndAboveTheTop(t *testing.T) {
	tr := built(t, clearing(api.Both, block(1, -3, 0)))
	looks(t, tr, space.New(), 1, open(0, 0), open(0, 0, -3), open(0, 0, -3))
	looks(t, tr, one(api.Left, 0), 1, open(0, 0), open(0, 0, -3), ended(0, 0))
	looks(t, tr, one(api.Right, -2), 1, open(0, 0), open(0, 0, -3), ended(0, 0))
	looks(t, tr, one(api.Right, -3), 1, open(0, 0), open(0, 0, -3), open(0, 0, -3))
}

// What the look into the box comes to hangs on all margins within that it gets, but not on the box's own one below.
func TestMarginsWithinMoveItBelowFloats(t *testing.T) {
	for _, x := range []struct {
		within []api.Box
		into   ahead.Look
	}{
		{nil, open(10, 0, 3)},
		{[]api.Box{block(2, 8, 0)}, open(10, 0, 8)},
		{[]api.Box{block(2, 0, 8)}, open(10, 0, 8)},
		{[]api.Box{block(2, -6, 0)}, open(10, 0, 3, -6)},
		{[]api.Box{block(2, 0, 0), text(3, 0, 8), block(2, -1, 0)}, open(10, 0, 8, -1)},
		{[]api.Box{text(2, 8, 20), atom(3)}, ended(10, 0, 8)},
		{[]api.Box{float(2, api.Right), root(2, 6)}, ended(10, api.Right, 6)},
		{[]api.Box{edged(1, 0, block(2, 8, 20)), block(2, 30, 30)}, ended(10, 0, 8)},
		{[]api.Box{float(2, api.Right), clearing(api.Right, block(2, 8, 20))}, ended(10, api.Right, 3)},
	} {
		tr := built(t, append([]api.Box{clearing(api.Left, block(1, 3, 40))}, x.within...)...)
		past := x.into
		if !past.Ended {
			past.Spot = past.Spot.With(40)
		}
		at := x.into.Spot.At()
		looks(t, tr, one(api.Left, at), 1, open(10, 0), x.into, past)
		looks(t, tr, one(api.Left, at+1), 1, open(10, 0), x.into, ended(10, 0))
		looks(t, tr, one(api.Right, at+1), 1, open(10, 0), x.into, past)
	}
}

// Sides that are found in a box that is then left ahead of don't count, and its edges and its Height end nothing else.
func TestSidesOfABoxThatIsLeft(t *testing.T) {
	l := []api.Box{
		block(1, 3, 40), float(2, api.Left), block(2, 4, 1),
		clearing(api.Right, block(2, 5, 7)), float(3, api.Right), text(3, 0, 0), float(4, api.Right),
		block(2, 300, 300), float(2, api.Right),
	}
	tr := built(t, l...)
	looks(t, tr, one(api.Right, 16), 1, open(10, 0), ended(10, api.Left, 4), ended(10, api.Left, 4))
	looks(t, tr, one(api.Right, 15), 1, open(10, 0), open(10, api.Both, 300), open(10, api.Both, 300))
	looks(t, tr, one(api.Right, 16), 4, open(10, 0), open(10, api.Right, 5), ended(10, 0))
	looks(t, tr, one(api.Right, 16), 4, open(10, api.Left), open(10, api.Both, 5), ended(10, api.Left))
	looks(t, tr, one(api.Right, 15), 4, open(10, api.Left), open(10, api.Both, 5), open(10, api.Both, 7))
}

// A box within that clears floats may leave the one around above them: then that ends as it was ahead, too.
func TestOneWithinAnother(t *testing.T) {
	tr := built(t,
		block(1, 1, 40), float(2, api.Left),
		clearing(api.Right, block(2, 5, 0)), block(3, 0, 0),
		clearing(api.Right, block(4, 9, 0)), float(5, api.Right),
	)
	for _, x := range []struct {
		bottom int
		want   ahead.Look
	}{
		{19, open(10, api.Both, 9)},
		{20, ended(10, api.Left, 1)}, // the inner one ends at 15, above 20, so the outer one is left ahead of, too
	} {
		past := x.want
		if !past.Ended {
			past.Spot = past.Spot.With(40)
		}
		looks(t, tr, one(api.Right, x.bottom), 1, open(10, 0), x.want, past)
	}
	// With another Clear around, the inner one alone is left ahead of.
	tr = built(t, block(1, 1, 40), block(2, 5, 0), block(3, 0, 0), clearing(api.Right, block(4, 9, 0)), float(5, api.Right))
	looks(t, tr, one(api.Right, 20), 1, open(10, 0), ended(10, 0, 5), ended(10, 0, 5))
}

// A look that has sides and margins already keeps them, and how its spot is.
func TestFromAnyLook(t *testing.T) {
	tr := built(t, block(1, 3, -4), float(2, api.Left), block(2, -2, 6))
	for sides := range 4 {
		for _, y := range []int{-9, 0, 30} {
			for _, how := range []func(ahead.Look) ahead.Look{
				func(l ahead.Look) ahead.Look { return l }, held, spent,
				func(l ahead.Look) ahead.Look { return held(spent(l)) },
			} {
				looks(t, tr, space.New(), 1, how(open(y, sides)), how(open(y, sides|api.Left, 6, -2)), how(open(y, sides|api.Left, 6, -4)))
				looks(t, tr, space.New(), 1, how(open(y, sides, 9, -3)), how(open(y, sides|api.Left, 9, -3)), how(open(y, sides|api.Left, 9, -4)))
				looks(t, tr, space.New(), 1, how(open(y, sides, -30)), how(open(y, sides|api.Left, 6, -30)), how(open(y, sides|api.Left, 6, -30)))
			}
		}
	}
}

// all has boxes of all kinds: those of which one may look into are at 1, 2, 5, 6 and 8.
func all() []api.Box {
	return []api.Box{
		block(1, 3, 4), clearing(api.Left, block(2, 5, 6)), float(2, api.Left), root(2, 7), block(3, 8, 9),
		text(1, 1, 2), atom(2), edged(1, 0, text(1, 0, 0)),
	}
}

// From a look that has ended there is nothing to look for: it stays itself, whatever the box is.
func TestFromALookThatHasEnded(t *testing.T) {
	tr := built(t, all()...)
	for at := -2; at < tr.Len()+3; at++ {
		for sides := range 4 {
			for _, l := range []ahead.Look{ended(8, sides), ended(-8, sides, 3, -4), held(ended(8, sides, 3)), spent(ended(8, sides, 3))} {
				looks(t, tr, space.New(), at, l, l, l)
				looks(t, tr, one(api.Left, 900), at, l, l, l)
			}
		}
	}
}

// Of places of other boxes, and of such as the tree hasn't, a look stays itself.
func TestOtherPlaces(t *testing.T) {
	tr := built(t, all()...)
	n := tr.Len()
	for _, at := range []int{0, 3, 4, 7, -1, n, -2, n + 1, n + 900, math.MinInt, math.MinInt + 1, math.MaxInt, math.MaxInt - 1} {
		for sides := range 4 {
			for _, l := range []ahead.Look{open(8, sides), open(-8, sides, 3, -4), held(open(8, sides, 3)), spent(open(8, sides, 3))} {
				looks(t, tr, space.New(), at, l, l, l)
				looks(t, tr, one(api.Left, 900), at, l, l, l)
			}
		}
	}
	for _, at := range []int{1, 2, 5, 6, 8} {
		if l := open(8, 0); ahead.Into(tr, space.New(), at, l) == l || ahead.Past(tr, space.New(), at, l) == l {
			t.Error(at)
		}
	}
	x, _, _ := tree.Build(page())
	looks(t, x, space.New(), 0, ahead.Look{}, ahead.Look{}, ahead.Look{})
	looks(t, x, space.New(), 1, ahead.Look{}, ahead.Look{}, ahead.Look{})
}

// deep gives boxes one in the other, as deep as may be: Blocks with the margins of their depths, below and above 0, and
// at last one of a kind.
func deep(kind, clear int) []api.Box {
	var l []api.Box
	for d := 1; d < api.MaxDepth; d++ {
		l = append(l, clearing(clear, block(d, d, -d)))
	}
	return append(l, clearing(clear, flowing(api.MaxDepth, kind, api.MaxDepth, -api.MaxDepth)))
}

// The deepest trees.
func TestDeepTrees(t *testing.T) {
	const d = api.MaxDepth
	for _, kind := range []int{api.Block, api.Text} {
		looks(t, built(t, deep(kind, 0)...), space.New(), 1, open(8, 0), open(8, 0, d, -d), open(8, 0, d, -d))
		looks(t, built(t, append(deep(kind, 0), block(1, 999, 0))...), space.New(), 2, open(8, 0), open(8, 0, d, -d), open(8, 0, d, -d))
		l := deep(kind, 0)
		l[d-1].Height = 7
		looks(t, built(t, l...), space.New(), 1, open(8, 0), ended(8, 0, d), ended(8, 0, d))
	}
	l := deep(api.Text, 0)
	l[d-1] = atom(d)
	l[d-2] = text(d-1, 5000, 6000)
	looks(t, built(t, l...), space.New(), 1, open(8, 0), ended(8, 0, 5000), ended(8, 0, 5000))
	l[d-1] = float(d, api.Left)
	looks(t, built(t, l...), space.New(), 1, open(8, 0), open(8, api.Left, 6000, 2-d), open(8, api.Left, 6000, 2-d))
}

// The deepest trees, of boxes that all clear a float: each is looked into once, however many of them are around it.
func TestDeepTreesThatClear(t *testing.T) {
	const d = api.MaxDepth
	l := deep(api.Text, api.Left)
	l[d-1].Margins[2] = 0
	tr := built(t, l...)
	// The innermost one comes to 8 and d; so does the one around it, whose own margin below isn't there yet; all others
	// come to 9, as they get that one.
	looks(t, tr, one(api.Left, 8), 1, open(8, 0), open(8, 0, d, 1-d), open(8, 0, d, 1-d))
	looks(t, tr, one(api.Left, 9), 1, open(8, 0), open(8, 0, d, 1-d), open(8, 0, d, 1-d))
	looks(t, tr, one(api.Left, 10), 1, open(8, 0), ended(8, 0, d-3), ended(8, 0, d-3))
	looks(t, tr, one(api.Left, 8+d+1), 1, open(8, 0), ended(8, 0, 1), ended(8, 0))
	looks(t, tr, one(api.Right, 8+d+1), 1, open(8, 0), open(8, 0, d, 1-d), open(8, 0, d, 1-d))
	looks(t, tr, one(api.Left, 8+d+1), d, open(8, 0), open(8, 0, d), ended(8, 0))
	looks(t, tr, one(api.Left, 8+d), d, open(8, 0), open(8, 0, d), open(8, 0, d))
}

// As many boxes as may be, in one.
func TestManyChildren(t *testing.T) {
	l := []api.Box{block(1, 3, 40)}
	for len(l) < api.MaxBoxes-2 {
		l = append(l, block(2, len(l), -len(l)))
	}
	n := len(l) - 1
	last := append(slices.Clone(l), float(2, api.Right))
	looks(t, built(t, last...), space.New(), 1, open(8, 0), open(8, api.Right, n, -n), open(8, api.Right, n, -n))
	last[len(l)] = root(2, 900000)
	looks(t, built(t, last...), space.New(), 1, open(8, 0), ended(8, 0, 900000, -n), ended(8, 0, 900000, -n))
	last[500].Height = 0
	looks(t, built(t, last...), space.New(), 1, open(8, 0), ended(8, 0, 500, -499), ended(8, 0, 500, -499))
}

// A look that ends at the first one of very many boxes is quick, however often it's taken.
func TestManyAtoms(t *testing.T) {
	l := []api.Box{text(1, 3, 40)}
	for len(l) < api.MaxBoxes-1 {
		l = append(l, atom(2))
	}
	tr, s := built(t, l...), space.New()
	for range 100000 {
		if got := ahead.Past(tr, s, 1, open(8, 0)); got != ended(8, 0, 3) {
			t.Fatal(got)
		}
	}
}

// The ends of what the chapter allows: a Y of 2^51 on either side, margins of 2^30 in the spot, boxes' own as great as
// they may be.
func TestFar(t *testing.T) {
	const far, margin, big = 1 << 51, 1 << 30, api.MaxSize
	for _, y := range []int{-far, far} {
		for _, m := range []int{-margin, 0, margin} {
			for _, above := range []int{-big, big} {
				tr := built(t, clearing(api.Left, block(1, above, -above)), float(2, api.Right))
				from := open(y, 0, m)
				into, past := open(y, api.Right, m, above), open(y, api.Right, m, above, -above)
				looks(t, tr, space.New(), 1, from, into, past)
				at := y + max(0, m, above) + min(0, m, above)
				if bottom := at; bottom > -far && bottom < far {
					looks(t, tr, one(api.Left, bottom), 1, from, into, past)
				}
				if bottom := at + 1; bottom > -far && bottom < far {
					looks(t, tr, one(api.Left, bottom), 1, from, into, ended(y, 0, m))
				}
				if y > 0 {
					looks(t, tr, one(api.Left, 5-far), 1, from, into, past)
				} else {
					looks(t, tr, one(api.Left, far-1), 1, from, into, ended(y, 0, m))
				}
			}
		}
	}
	both := ahead.Look{Spot: spot.Spot{Y: far, Strut: strut.Strut{Most: margin, Least: -margin}, Spent: true}, Sides: api.Both}
	tr := built(t, block(1, big, -big), block(2, -big, big))
	looks(t, tr, space.New(), 1, both, both, both)
}

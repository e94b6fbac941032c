package ahead_test

import (
	"slices"
	"testing"

	"runaround/ahead"
	"runaround/api"
	"runaround/space"
	"runaround/spot"
	"runaround/strut"
	"runaround/tree"
)

// flowing gives a Block or a Text that has nothing but two margins, and at its sides what doesn't count.
func flowing(depth, kind, above, below int) api.Box {
	return api.Box{
		Depth: depth, Kind: kind, Width: 50, Height: api.Auto,
		Margins: [4]int{above, 1001, below, -1002}, Edges: [4]int{0, 1003, 0, 1004},
	}
}

// block gives a Block with a margin above and one below.
func block(depth, above, below int) api.Box { return flowing(depth, api.Block, above, below) }

// text gives a Text with a margin above and one below.
func text(depth, above, below int) api.Box { return flowing(depth, api.Text, above, below) }

// atom gives an Atom.
func atom(depth int) api.Box { return api.Box{Depth: depth, Kind: api.Atom, Width: 1, Height: 1} }

// float gives a Float of a side, of which nothing else counts.
func float(depth, side int) api.Box {
	return api.Box{
		Depth: depth, Kind: api.Float, Side: side, Clear: api.Both, Width: 5, Height: 2,
		Margins: [4]int{901, 902, 903, 904}, Edges: [4]int{905, 906, 907, 908},
	}
}

// root gives a Root with a margin above, of which, but for its Clear, nothing else counts.
func root(depth, above int) api.Box {
	return api.Box{
		Depth: depth, Kind: api.Root, Width: 5, Height: 2,
		Margins: [4]int{above, 802, 803, 804}, Edges: [4]int{805, 806, 807, 808},
	}
}

// clearing gives a box that clears something.
func clearing(clear int, b api.Box) api.Box {
	b.Clear = clear
	return b
}

// edged gives a box with an edge above and one below.
func edged(above, below int, b api.Box) api.Box {
	b.Edges[0], b.Edges[2] = above, below
	return b
}

// high gives a box of a Height.
func high(height int, b api.Box) api.Box {
	b.Height = height
	return b
}

// page gives a first box, and others that stand in it.
func page(l ...api.Box) []api.Box {
	return append([]api.Box{{Kind: api.Root, Width: 70, Height: api.Auto}}, l...)
}

// built gives the tree of a first box and others that stand in it.
func built(t *testing.T, l ...api.Box) *tree.Tree {
	t.Helper()
	x, at, e := tree.Build(page(l...))
	if e != api.OK {
		t.Fatal(at, e)
	}
	return x
}

// one gives a space with one float, which ends at a bottom.
func one(side, bottom int) *space.Space {
	s := space.New()
	s.Put(side, api.Rect{Left: 0, Top: bottom - 4, Right: 3, Bottom: bottom})
	return s
}

// open gives a look that hasn't ended.
func open(y, sides int, margins ...int) ahead.Look {
	return ahead.Look{Spot: spot.Spot{Y: y, Strut: strut.Of(margins...)}, Sides: sides}
}

// ended gives a look that has ended.
func ended(y, sides int, margins ...int) ahead.Look {
	l := open(y, sides, margins...)
	l.Ended = true
	return l
}

// spent gives a look whose spot is spent.
func spent(l ahead.Look) ahead.Look {
	l.Spot.Spent = true
	return l
}

// held gives a look whose spot is held.
func held(l ahead.Look) ahead.Look {
	l.Spot.Held = true
	return l
}

// kept gives what a tree and a space tell of themselves.
func kept(x *tree.Tree, s *space.Space) ([]api.Box, []space.Float) {
	var boxes []api.Box
	for at := range x.Len() {
		boxes = append(boxes, x.Box(at))
	}
	return boxes, s.Floats()
}

// looks tells it if looking into a box, or past it, comes to something else, or to something else when it's done again;
// or if the tree or the space don't stay as they are.
func looks(t *testing.T, x *tree.Tree, s *space.Space, at int, from, into, past ahead.Look) {
	t.Helper()
	boxes, floats := kept(x, s)
	for range 2 {
		if got := ahead.Into(x, s, at, from); got != into {
			t.Errorf("into %d from %v: %v, not %v", at, from, got, into)
		}
		if got := ahead.Past(x, s, at, from); got != past {
			t.Errorf("past %d from %v: %v, not %v", at, from, got, past)
		}
	}
	if b, f := kept(x, s); !slices.Equal(b, boxes) || !slices.Equal(f, floats) {
		t.Errorf("%v, %v, not %v, %v", b, f, boxes, floats)
	}
}

// The chapter's example.
func TestExample(t *testing.T) {
	x := built(t, block(1, 3, 0), block(2, 5, 0), text(3, 0, 0), atom(4))
	looks(t, x, space.New(), 1, ahead.Look{}, ended(0, api.None, 5), ended(0, api.None, 5))
	if at := ahead.Into(x, space.New(), 1, ahead.Look{}).Spot.At(); at != 5 {
		t.Error(at)
	}
}

// P16.1, K8: a Look has just these fields, in this order; and each of them counts where looks are held against each other.
func TestLookFields(t *testing.T) {
	l := ahead.Look{spot.Below(4, 5), api.Right, true}
	if l != ended(4, api.Right, 5) {
		t.Error(l, "isn't what it is")
	}
	for _, other := range []ahead.Look{
		{}, open(4, api.Right, 5), ended(4, api.Left, 5), ended(3, api.Right, 5), ended(4, api.Right, 6), held(l), spent(l),
	} {
		if l == other {
			t.Error(l, other)
		}
	}
}

// P16.1: each clear and all sides.
func TestClears(t *testing.T) {
	for _, x := range []struct {
		clear int
		want  [4]bool // of None, Left, Right, Both
	}{
		{api.None, [4]bool{false, false, false, false}},
		{api.Left, [4]bool{false, true, false, true}},
		{api.Right, [4]bool{false, false, true, true}},
		{api.Both, [4]bool{false, true, true, true}},
	} {
		for sides, want := range x.want {
			if got := ahead.Clears(x.clear, sides); got != want {
				t.Error(x.clear, sides, got)
			}
		}
	}
}

// A Block and a Text in which nothing stands: the margin above, and behind that the one below.
func TestNothingWithin(t *testing.T) {
	for _, m := range [][2]int{{0, 0}, {3, 0}, {3, 4}, {4, 3}, {-3, 0}, {0, -4}, {-3, -4}, {-4, -3}, {3, -4}, {-4, 3}} {
		for _, kind := range []int{api.Block, api.Text} {
			x := built(t, flowing(1, kind, m[0], m[1]))
			looks(t, x, space.New(), 1, ahead.Look{}, open(0, api.None, m[0]), open(0, api.None, m[0], m[1]))
			looks(t, x, space.New(), 1, open(9, api.Left, 2), open(9, api.Left, 2, m[0]), open(9, api.Left, 2, m[0], m[1]))
		}
	}
}

// A top edge above 0 ends the look behind the margin above, ahead of all that stands within; one of 0 doesn't.
func TestTopEdge(t *testing.T) {
	for _, kind := range []int{api.Block, api.Text} {
		for _, edge := range []int{1, 2, 77, api.MaxSize} {
			x := built(t, edged(edge, 0, flowing(1, kind, 3, 40)), float(2, api.Left))
			looks(t, x, space.New(), 1, open(8, api.None), ended(8, api.None, 3), ended(8, api.None, 3))
		}
		x := built(t, edged(0, 0, flowing(1, kind, 3, 40)), float(2, api.Left))
		looks(t, x, space.New(), 1, open(8, api.None), open(8, api.Left, 3), open(8, api.Left, 3, 40))
	}
	x := built(t, edged(1, 0, block(1, 3, 40)), block(2, 50, 60))
	looks(t, x, space.New(), 1, open(8, api.None), ended(8, api.None, 3), ended(8, api.None, 3))
}

// A bottom edge above 0 ends the look behind all that stands within, ahead of the margin below; one of 0 doesn't.
func TestBottomEdge(t *testing.T) {
	for _, kind := range []int{api.Block, api.Text} {
		for _, edge := range []int{1, 2, 77, api.MaxSize} {
			x := built(t, edged(0, edge, flowing(1, kind, 3, 40)), float(2, api.Left))
			looks(t, x, space.New(), 1, open(8, api.None), ended(8, api.Left, 3), ended(8, api.Left, 3))
		}
	}
	x := built(t, edged(0, 1, block(1, 3, 40)), block(2, -5, 6))
	looks(t, x, space.New(), 1, open(8, api.None), ended(8, api.None, -5, 6), ended(8, api.None, -5, 6))
	x = built(t, edged(0, 0, block(1, 3, 40)), block(2, -5, 6))
	looks(t, x, space.New(), 1, open(8, api.None), open(8, api.None, -5, 6), open(8, api.None, -5, 40))
}

// So does any Height but Auto, 0 too.
func TestHeight(t *testing.T) {
	for _, kind := range []int{api.Block, api.Text} {
		for _, height := range []int{0, 1, 77, api.MaxSize} {
			x := built(t, high(height, flowing(1, kind, 3, 40)), float(2, api.Left))
			looks(t, x, space.New(), 1, open(8, api.None), ended(8, api.Left, 3), ended(8, api.Left, 3))
		}
		x := built(t, high(api.Auto, flowing(1, kind, 3, 40)), float(2, api.Left))
		looks(t, x, space.New(), 1, open(8, api.None), open(8, api.Left, 3), open(8, api.Left, 3, 40))
	}
	x := built(t, high(0, block(1, 3, 40)), block(2, -5, 6))
	looks(t, x, space.New(), 1, open(8, api.None), ended(8, api.None, -5, 6), ended(8, api.None, -5, 6))
}

// Edges and a Height that end the look at once come to the same as one of them.
func TestSeveralEnds(t *testing.T) {
	for _, b := range []api.Box{edged(1, 1, block(1, 3, 40)), high(0, edged(1, 0, block(1, 3, 40))), high(5, edged(2, 2, block(1, 3, 40)))} {
		looks(t, built(t, b, block(2, 9, 9)), space.New(), 1, open(8, 0), ended(8, 0, 3), ended(8, 0, 3))
	}
	x := built(t, high(0, edged(0, 1, block(1, 3, 40))), block(2, 9, -9))
	looks(t, x, space.New(), 1, open(8, 0), ended(8, 0, 9, -9), ended(8, 0, 9, -9))
}

// Floats' sides are put together, wherever in the box they stand; nothing else of them counts, nor what stands in them.
func TestFloats(t *testing.T) {
	for _, x := range []struct {
		sides []int
		want  [4]int // from None, Left, Right, Both on
	}{
		{nil, [4]int{api.None, api.Left, api.Right, api.Both}},
		{[]int{api.Left}, [4]int{api.Left, api.Left, api.Both, api.Both}},
		{[]int{api.Right}, [4]int{api.Right, api.Both, api.Right, api.Both}},
		{[]int{api.Left, api.Left}, [4]int{api.Left, api.Left, api.Both, api.Both}},
		{[]int{api.Right, api.Right}, [4]int{api.Right, api.Both, api.Right, api.Both}},
		{[]int{api.Left, api.Right}, [4]int{api.Both, api.Both, api.Both, api.Both}},
		{[]int{api.Right, api.Left}, [4]int{api.Both, api.Both, api.Both, api.Both}},
		{[]int{api.Right, api.Left, api.Right}, [4]int{api.Both, api.Both, api.Both, api.Both}},
	} {
		for _, kind := range []int{api.Block, api.Text} {
			l := []api.Box{flowing(1, kind, 3, 4)}
			for _, side := range x.sides {
				l = append(l, float(2, side), block(3, 600, -600), float(4, api.Both-side), text(3, 700, -700), atom(4))
			}
			for sides, want := range x.want {
				looks(t, built(t, l...), space.New(), 1, open(8, sides), open(8, want, 3), open(8, want, 4))
			}
		}
	}
}

// Floats that stand in boxes within count, too, and the space's own don't.
func TestFloatsWithin(t *testing.T) {
	x := built(t, block(1, 1, 2), block(2, 0, 0), float(3, api.Right), text(3, 0, 0), float(4, api.Left), text(2, 0, 0))
	looks(t, x, space.New(), 1, open(8, api.None), open(8, api.Both, 1), open(8, api.Both, 2))
	looks(t, x, space.New(), 4, open(8, api.None), open(8, api.Left), open(8, api.Left))
	looks(t, x, one(api.Left, 90), 6, open(8, api.None), open(8, api.None), open(8, api.None))
}

// An Atom ends the look: Floats ahead of it count, such as stand behind it don't.
func TestAtom(t *testing.T) {
	for _, x := range []struct {
		l     []api.Box
		sides int
	}{
		{[]api.Box{text(1, 3, 40), atom(2)}, api.None},
		{[]api.Box{text(1, 3, 40), atom(2), float(2, api.Right)}, api.None},
		{[]api.Box{text(1, 3, 40), float(2, api.Left), atom(2), float(2, api.Right)}, api.Left},
		{[]api.Box{text(1, 3, 40), float(2, api.Left), float(2, api.Right), atom(2), atom(2)}, api.Both},
		{[]api.Box{text(1, 3, 40), float(2, api.Right), atom(2), float(2, api.Left), block(1, 90, 90)}, api.Right},
	} {
		looks(t, built(t, x.l...), space.New(), 1, open(8, api.None), ended(8, x.sides, 3), ended(8, x.sides, 3))
	}
}

// A Root ends the look, with its margin above; without that, just if its Clear clears the sides that were found ahead.
func TestRoot(t *testing.T) {
	for clear := range 4 {
		for sides := range 4 {
			x := built(t, block(1, 3, 40), clearing(clear, root(2, 7)), block(3, 600, 600), float(3, api.Left), block(2, 500, 500))
			want := ended(8, sides, 3, 7)
			if ahead.Clears(clear, sides) {
				want = ended(8, sides, 3)
			}
			looks(t, x, space.New(), 1, open(8, sides), want, want)
			looks(t, x, one(api.Left, 900), 1, open(8, sides), want, want) // floats that stand don't count here
		}
	}
	for _, above := range []int{-7, 0, 2} {
		x := built(t, block(1, 3, 40), root(2, above))
		looks(t, x, space.New(), 1, open(8, api.Both), ended(8, api.Both, 3, above), ended(8, api.Both, 3, above))
	}
}

// The sides may be those of a Float that stands ahead of the Root, in the same box or in one ahead.
func TestRootBehindFloats(t *testing.T) {
	for _, side := range []int{api.Left, api.Right} {
		for clear := range 4 {
			want := ended(8, side, 3, 7)
			if clear == side || clear == api.Both {
				want = ended(8, side, 3)
			}
			x := built(t, block(1, 3, 40), float(2, side), clearing(clear, root(2, 7)))
			looks(t, x, space.New(), 1, open(8, 0), want, want)
			x = built(t, block(1, 3, 40), block(2, 1, 2), text(3, 0, 0), float(4, side), clearing(clear, root(2, 7)), float(2, 3-side))
			looks(t, x, space.New(), 1, open(8, 0), want, want)
		}
	}
}

// Margins of boxes one in the other, and one behind the other: all that the look comes by, in the tree's order, with a
// box's margin below behind all that stands in it.
func TestMarginsWithin(t *testing.T) {
	l := []api.Box{
		block(1, 3, 11),
		block(2, -2, 12), block(3, 5, -14), block(4, -6, 1), text(3, 6, 7),
		block(2, -9, 10), text(3, 1, -15),
	}
	x := built(t, l...)
	looks(t, x, space.New(), 1, open(8, 0), open(8, 0, 12, -15), open(8, 0, 12, -15))
	looks(t, x, space.New(), 2, open(8, 0), open(8, 0, 7, -14), open(8, 0, 12, -14))
	looks(t, x, space.New(), 3, open(8, 0), open(8, 0, 5, -6), open(8, 0, 5, -14))
	looks(t, x, space.New(), 6, open(8, 0), open(8, 0, 1, -15), open(8, 0, 10, -15))
}

// Where an Atom ends the look, the margins ahead of that count alone: those below of the boxes around it don't.
func TestMarginsAheadOfTheEnd(t *testing.T) {
	l := []api.Box{
		block(1, 3, 11),
		block(2, -2, 12), block(3, 5, -14), block(4, -6, 1),
		block(2, -9, 10), block(3, 1, -15),
	}
	for n, want := range []strut.Strut{
		strut.Of(3), strut.Of(3, -2), strut.Of(5, -2), strut.Of(5, -6), strut.Of(12, -14), strut.Of(12, -14),
	} {
		depth := l[n].Depth + 1
		cut := append(slices.Clone(l[:n+1]), text(depth, 0, 700), atom(depth+1))
		looked := ended(8, 0)
		looked.Spot.Strut = want
		looks(t, built(t, append(cut, l[n+1:]...)...), space.New(), 1, open(8, 0), looked, looked)
	}
}

// A margin below counts only where the look into its box hasn't ended.
func TestMarginBelow(t *testing.T) {
	for _, x := range []struct {
		within     []api.Box
		into, past ahead.Look
	}{
		{nil, open(8, 0, 9, -20), open(8, 0, 40, -20)},
		{[]api.Box{float(3, api.Left)}, open(8, api.Left, 9, -20), open(8, api.Left, 40, -20)},
		{[]api.Box{block(3, -30, 2)}, open(8, 0, 9, -30), open(8, 0, 40, -30)},
		{[]api.Box{text(3, 0, 20), atom(4)}, ended(8, 0, 5), ended(8, 0, 5)},
		{[]api.Box{root(3, 6)}, ended(8, 0, 6), ended(8, 0, 6)},
		{[]api.Box{edged(1, 0, block(3, -1, 20))}, ended(8, 0, 5, -1), ended(8, 0, 5, -1)},
		{[]api.Box{edged(0, 1, block(3, -1, 20))}, ended(8, 0, 5, -1), ended(8, 0, 5, -1)},
		{[]api.Box{high(0, block(3, -1, 20))}, ended(8, 0, 5, -1), ended(8, 0, 5, -1)},
		{[]api.Box{float(3, api.Left), clearing(api.Left, block(3, -1, 20))}, ended(8, api.Left, 5), ended(8, api.Left, 5)},
	} {
		l := append([]api.Box{block(1, 3, 40), block(2, 5, 9)}, x.within...)
		looks(t, built(t, append(l, block(2, 4, -20))...), space.New(), 1, open(8, 0), x.into, x.past)
	}
}

// A spot that is spent gets a margin below as any other one does: it stays spent, and its Y stays.
func TestMarginBelowOfSpent(t *testing.T) {
	tr := built(t, block(1, 3, 40), block(2, -5, 9))
	looks(t, tr, space.New(), 1, spent(open(8, 0, 2)), spent(open(8, 0, 9, -5)), spent(open(8, 0, 40, -5)))
	looks(t, tr, space.New(), 2, spent(open(8, 0, 2)), spent(open(8, 0, 2, -5)), spent(open(8, 0, 9, -5)))
}

// ends has lists of boxes, from the depth 2 on, that each end a look that has the side Left, beside a left float that
// ends at 90; and what the look comes to that was open(8, api.Left, 3).
func ends() []struct {
	l    []api.Box
	want ahead.Look
} {
	return []struct {
		l    []api.Box
		want ahead.Look
	}{
		{[]api.Box{text(2, 4, 0), atom(3)}, ended(8, api.Left, 4)},
		{[]api.Box{root(2, 4)}, ended(8, api.Left, 4)},
		{[]api.Box{clearing(api.Left, root(2, 4))}, ended(8, api.Left, 3)},
		{[]api.Box{edged(1, 0, block(2, 4, 0))}, ended(8, api.Left, 4)},
		{[]api.Box{edged(0, 1, block(2, 4, 0))}, ended(8, api.Left, 4)},
		{[]api.Box{high(0, text(2, 4, 0))}, ended(8, api.Left, 4)},
		{[]api.Box{clearing(api.Left, block(2, 4, 0))}, ended(8, api.Left, 3)},
		{[]api.Box{clearing(api.Both, text(2, 4, 0))}, ended(8, api.Left, 3)},
		{[]api.Box{block(2, 4, 0), block(3, 0, 0), clearing(api.Left, block(4, 9, 0))}, ended(8, api.Left, 4)},
	}
}

// Nothing behind the place where a look ends is looked at.
func TestNothingBehindTheEnd(t *testing.T) {
	for _, x := range ends() {
		behind := x.l[len(x.l)-1].Depth
		for _, l := range [][]api.Box{
			{float(behind, api.Right)},
			{root(2, 300)},
			{block(2, 300, -300)},
			{float(2, api.Right), block(2, -300, 300), text(2, 400, 0), float(3, api.Right), atom(3)},
			{text(1, 300, -300), float(2, api.Right)},
			{float(1, api.Right), root(1, -300)},
		} {
			tr := built(t, append(append([]api.Box{block(1, 3, 40)}, x.l...), l...)...)
			looks(t, tr, one(api.Left, 90), 1, open(8, api.Left), x.want, x.want)
		}
	}
}

// Looking past a box whose Clear clears the sides: the look ends as it is. Looking into it asks nothing of its Clear.
func TestPastWhatClearsSides(t *testing.T) {
	for clear := range 4 {
		for sides := range 4 {
			for _, kind := range []int{api.Block, api.Text} {
				x := built(t, clearing(clear, flowing(1, kind, 3, 4)), float(2, api.Right))
				into, past := open(8, sides|api.Right, 2, 3), open(8, sides|api.Right, 2, 4)
				if ahead.Clears(clear, sides) {
					past = ended(8, sides, 2)
				}
				looks(t, x, space.New(), 1, open(8, sides, 2), into, past)
				if ahead.Clears(clear, sides) {
					past = held(past)
					looks(t, x, space.New(), 1, held(open(8, sides, 2)), held(into), past)
					looks(t, x, space.New(), 1, held(spent(open(8, sides, 2))), held(spent(into)), spent(past))
				}
			}
		}
	}
}

// The sides that a box within clears may be those of a Float that stands in a box ahead.
func TestWithinWhatClearsSides(t *testing.T) {
	for clear := range 4 {
		for _, side := range []int{api.Left, api.Right} {
			clears := clear == side || clear == api.Both
			for _, l := range [][]api.Box{
				{block(1, 3, 40), float(2, side), clearing(clear, block(2, 5, 7))},
				{block(1, 3, 40), float(2, side), clearing(clear, text(2, 5, 7))},
				{block(1, 3, 40), text(2, 1, 2), float(3, side), clearing(clear, block(2, 5, 7))},
				{block(1, 3, 40), block(2, 1, 2), block(3, 0, 0), text(4, 0, 0), float(5, side), block(2, 0, 0), clearing(clear, text(3, 5, 7))},
			} {
				into, past := open(8, side, 7), open(8, side, 40)
				if clears {
					into = ended(8, side, 3)
					past = into
				}
				looks(t, built(t, l...), space.New(), 1, open(8, 0), into, past)
			}
			// A Float that stands behind, or in the box itself, isn't one of those.
			x := built(t, block(1, 3, 40), clearing(clear, block(2, 5, 7)), float(3, side))
			looks(t, x, space.New(), 1, open(8, 0), open(8, side, 7), open(8, side, 40))
		}
	}
}

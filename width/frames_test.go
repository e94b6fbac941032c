package width_test

import (
	"slices"
	"testing"

	"runaround/api"
	"runaround/rect"
	"runaround/tree"
	"runaround/width"
)

// most is how many boxes a tree may have, deepest how deep they may lie.
const (
	most    = 65536
	deepest = 256
)

// box gives a box of a kind, with margins and edges at its right and left, and others at its top and bottom.
func box(depth, kind, wide, rightMargin, leftMargin, rightEdge, leftEdge int) api.Box {
	b := api.Box{Depth: depth, Kind: kind, Width: wide, Height: api.Auto}
	if kind == api.Atom {
		b.Height = 70001
		return b
	}
	if kind == api.Float {
		b.Side = api.Left
	}
	b.Margins = [4]int{80001, rightMargin, -80002, leftMargin}
	b.Edges = [4]int{80003, rightEdge, 80004, leftEdge}
	return b
}

// plain gives a box without right and left margins and edges.
func plain(depth, kind, wide int) api.Box { return box(depth, kind, wide, 0, 0, 0, 0) }

// edged gives a first box with edges: it may have these, but no margins.
func edged(wide, rightEdge, leftEdge int) api.Box {
	b := box(0, api.Root, wide, 0, 0, rightEdge, leftEdge)
	b.Margins = [4]int{}
	return b
}

// page gives a first box.
func page(wide int) api.Box { return edged(wide, 0, 0) }

// below gives a Root that is so wide, and boxes down to a depth, each in the one ahead, that are one box's likes.
func below(wide, depth int, b api.Box) []api.Box {
	l := []api.Box{page(wide)}
	for d := range depth {
		b.Depth = d + 1
		l = append(l, b)
	}
	return l
}

// chosen gives numbers by a rule of its own.
type chosen uint64

// to gives one from 0 to n, without n.
func (c *chosen) to(n int) int {
	*c = *c*6364136223846793005 + 1442695040888963407
	return int(*c>>34) % n
}

// of gives one of some.
func (c *chosen) of(some ...int) int { return some[c.to(len(some))] }

// next gives a box that may stand behind one of this depth, or may not.
func (c *chosen) next(last int, steep bool) api.Box {
	depth := 1 + c.to(last+1)
	if steep {
		depth = max(1, last+1-c.to(3))
	}
	kind := 1 + c.to(5)
	wide := c.of(0, 1, 5, 17, 40, 90)
	if kind != api.Float && kind != api.Atom {
		wide = c.of(api.Auto, api.Auto, api.Auto, wide)
	}
	return box(min(depth, deepest), kind, wide, c.of(0, 1, 4, -3, -9, 30), c.of(0, 2, 7, -1, -12, 25), c.of(0, 0, 3, 8), c.of(0, 1, 6))
}

// grown gives boxes that are a tree, chosen by a seed; steep ones lie deeper.
func grown(seed, boxes int, steep bool) []api.Box {
	c := chosen(seed)
	l := []api.Box{page(c.of(0, 9, 60, 300))}
	for len(l) < boxes {
		longer := append(l, c.next(l[len(l)-1].Depth, steep))
		if _, _, e := tree.Build(longer); e == api.OK {
			l = longer
		}
	}
	return l
}

// several gives lists of boxes that are trees.
func several() [][]api.Box {
	const block, float, root, text, atom = api.Block, api.Float, api.Root, api.Text, api.Atom
	all := [][]api.Box{
		{page(0)},
		{page(30)},
		{page(30), box(1, block, api.Auto, 1, 2, 4, 8), box(2, block, api.Auto, 1, 2, 4, 8), box(3, text, api.Auto, 1, 2, 4, 8), plain(4, atom, 6)},
		{page(30), box(1, float, 9, 1, 2, 4, 8), box(2, float, 7, 1, 2, 4, 8), box(3, block, api.Auto, 1, 2, 1, 2), box(2, block, api.Auto, 1, 2, 1, 2)},
		{page(90), box(1, root, api.Auto, 1, 2, 4, 8), box(2, root, api.Auto, 1, 2, 4, 8), box(3, block, api.Auto, 1, 2, 4, 8), box(2, text, api.Auto, 3, 4, 5, 6)},
		{page(50), box(1, block, api.Auto, 0, 3, 0, 5), box(2, text, api.Auto, 0, 7, 0, 9), box(3, float, 8, 1, 2, 3, 4), box(4, text, api.Auto, 0, 1, 0, 2), plain(5, atom, 0), plain(3, atom, 3)},
		{page(5), box(1, block, api.Auto, 20, 30, 1, 2), box(2, block, api.Auto, -3, 4, 0, 0), box(3, root, api.Auto, -8, -9, 0, 5), box(4, text, 3, 0, -40, 0, 1)},
		below(100, 9, box(0, block, api.Auto, -2, -5, 1, 1)),
		below(100, 9, box(0, root, api.Auto, 3, 2, 1, 1)),
		below(100, 9, box(0, float, 4, 3, 2, 1, 1)),
	}
	for seed := range 60 {
		all = append(all, grown(seed, 2+2*seed, seed%2 == 1))
	}
	return all
}

// aroundOf looks for the box in which one stands: the last one ahead that is just one less deep.
func aroundOf(l []api.Box, i int) int {
	for j := i - 1; j >= 0; j-- {
		if l[j].Depth == l[i].Depth-1 {
			return j
		}
	}
	return -1
}

// wideOf works out how wide a box's content is, from the box itself outwards to the first Width that counts.
func wideOf(l []api.Box, i int) int {
	b := l[i]
	if b.Width != -1 {
		return b.Width
	}
	wide := wideOf(l, aroundOf(l, i)) - takenBy(b)
	if wide < 0 {
		return 0
	}
	return wide
}

// leftOf works out where a box's content begins, from the box itself outwards to the first one that begins at 0.
func leftOf(l []api.Box, i int) int {
	switch b := l[i]; b.Kind {
	case api.Float, api.Root, api.Atom:
		return 0
	default:
		return leftOf(l, aroundOf(l, i)) + b.Margins[3] + b.Edges[3]
	}
}

// columnsOf gives of each box what the chapter says of it.
func columnsOf(l []api.Box) []rect.Span {
	var all []rect.Span
	for i := range l {
		all = append(all, rect.Span{From: leftOf(l, i), To: leftOf(l, i) + wideOf(l, i)})
	}
	return all
}

// built gives the tree of boxes of which nothing may be wrong.
func built(t *testing.T, l []api.Box) *tree.Tree {
	t.Helper()
	x, at, e := tree.Build(l)
	if e != api.OK {
		t.Fatal(len(l), at, e)
	}
	return x
}

// same tells the first frame that isn't what it should be, if there is one.
func same(t *testing.T, frames, want []rect.Span) {
	t.Helper()
	if len(frames) != len(want) {
		t.Error(len(frames), "frames, not", len(want))
		return
	}
	for at, frame := range frames {
		if frame != want[at] {
			t.Error(at, frame, "not", want[at])
			return
		}
	}
}

// framed tells it if a list's frames aren't these, written as the ends of each.
func framed(t *testing.T, l []api.Box, ends ...int) {
	t.Helper()
	var want []rect.Span
	for pair := range slices.Chunk(ends, 2) {
		want = append(want, rect.Span{From: pair[0], To: pair[1]})
	}
	same(t, width.Frames(built(t, l)), want)
}

// P8.2: the chapter's example.
func TestExampleFrames(t *testing.T) {
	framed(t, []api.Box{page(20), box(1, api.Block, api.Auto, 3, 2, 0, 0)}, 0, 20, 2, 17)
}

// P8.2: a Root alone has the columns from 0 to its Width, whatever its edges and its Height are.
func TestRootAlone(t *testing.T) {
	for _, wide := range []int{0, 1, 40, big} {
		framed(t, []api.Box{page(wide)}, 0, wide)
		framed(t, []api.Box{edged(wide, 7, 9)}, 0, wide)
		framed(t, []api.Box{edged(wide, big, big)}, 0, wide)
		framed(t, []api.Box{{Kind: api.Root, Width: wide, Height: 3}}, 0, wide)
	}
}

// P8.2: several trees, each place held against the chapter's words.
func TestSeveralTrees(t *testing.T) {
	for _, l := range several() {
		same(t, width.Frames(built(t, l)), columnsOf(l))
	}
}

// The trees that the test above goes through nest boxes in each other as they fit, of each kind.
func TestTreesNestAllKinds(t *testing.T) {
	nested := map[[2]int]int{}
	for _, l := range several() {
		for i := 1; i < len(l); i++ {
			nested[[2]int{l[aroundOf(l, i)].Kind, l[i].Kind}]++
		}
	}
	for _, around := range []int{api.Block, api.Float, api.Root} {
		for _, kind := range []int{api.Block, api.Float, api.Root, api.Text} {
			if nested[[2]int{around, kind}] == 0 {
				t.Error(around, kind)
			}
		}
	}
	if nested[[2]int{api.Text, api.Atom}] == 0 || nested[[2]int{api.Text, api.Float}] == 0 {
		t.Error(nested)
	}
}

// P8.2: Blocks and Texts begin where the columns around do, their left margins and edges more; the first box's
// own edges count for nothing.
func TestLeftAddsUp(t *testing.T) {
	framed(t, []api.Box{
		edged(100, 7, 9),
		box(1, api.Block, api.Auto, 1, 2, 4, 8),
		box(2, api.Block, api.Auto, 1, 2, 4, 8),
		box(3, api.Text, api.Auto, 10, 0, 0, 3),
		box(1, api.Text, 12, 50, 20, 60, 30),
		box(1, api.Block, 200, 1, 0, 0, 0),
		box(2, api.Block, api.Auto, 1, 0, 0, 1),
	}, 0, 100, 10, 95, 20, 90, 23, 80, 50, 62, 0, 200, 1, 199)
}

// P8.2: columns begin at 0 in a Float, in a Root, and of an Atom, wherever these stand, and whatever margins and
// edges they have; what stands in them begins there.
func TestFromZero(t *testing.T) {
	framed(t, []api.Box{
		page(100),
		box(1, api.Block, api.Auto, 0, 10, 0, 5),
		box(2, api.Float, 30, 1, 2, 3, 4),
		box(3, api.Block, api.Auto, 0, 6, 0, 0),
		box(2, api.Root, api.Auto, 1, 2, 3, 4),
		box(3, api.Block, api.Auto, 0, 0, 0, 6),
		box(2, api.Text, api.Auto, 0, 0, 5, 0),
		plain(3, api.Atom, 11),
		box(3, api.Float, 0, 1, 2, 3, 4),
		plain(3, api.Atom, 0),
	}, 0, 100, 15, 100, 0, 30, 6, 30, 0, 75, 6, 75, 15, 95, 0, 11, 0, 0, 0, 0)
}

// P8.2: a Float, and a Root, within inner Floats and Roots.
func TestInnerContexts(t *testing.T) {
	framed(t, []api.Box{
		page(80),
		box(1, api.Float, 50, 1, 2, 3, 4),
		box(2, api.Block, api.Auto, 0, 5, 0, 1),
		box(3, api.Float, 20, 1, 2, 3, 4),
		box(4, api.Text, api.Auto, 2, 3, 0, 0),
		box(3, api.Root, api.Auto, 1, 2, 3, 4),
		box(4, api.Block, api.Auto, 0, 1, 0, 0),
		box(5, api.Root, api.Auto, 2, 2, 2, 2),
		box(6, api.Float, 9, 1, 1, 1, 1),
		box(2, api.Text, api.Auto, 0, 7, 0, 0),
	}, 0, 80, 0, 50, 6, 50, 0, 20, 3, 18, 0, 34, 1, 34, 0, 25, 0, 9, 7, 50)
}

// P8.2: columns that begin, or even end, left of 0.
func TestLeftOfZero(t *testing.T) {
	framed(t, []api.Box{
		page(30),
		box(1, api.Block, api.Auto, 0, -8, 0, 3),
		box(2, api.Text, api.Auto, 0, -2, 0, 0),
		box(2, api.Block, 4, 0, -20, 0, 0),
		box(2, api.Root, api.Auto, -1, -1, 0, 0),
		box(1, api.Block, 6, 0, -big, 0, 0),
		box(2, api.Block, api.Auto, 0, -big, 0, 0),
	}, 0, 30, -5, 30, -7, 30, -25, -21, 0, 37, -big, 6-big, -2*big, 6-big)
}

// P8.2: boxes of Auto that have more margins and edges than fit are 0 wide, and begin where they do all the same;
// boxes of Auto within these have nothing to share, but for what negative margins bring.
func TestNoRoom(t *testing.T) {
	framed(t, []api.Box{
		page(10),
		box(1, api.Block, api.Auto, 5, 4, 0, 1),
		box(1, api.Block, api.Auto, 5, 4, 1, 1),
		box(1, api.Block, api.Auto, 20, 30, 40, 50),
		box(2, api.Block, api.Auto, 0, 0, 0, 0),
		box(3, api.Block, api.Auto, 1, 2, 0, 0),
		box(4, api.Text, api.Auto, -3, -4, 0, 0),
		box(4, api.Root, api.Auto, 5, -7, 1, 0),
		box(4, api.Text, 6, 0, 0, 0, 0),
		box(2, api.Root, api.Auto, 1, 0, 0, 0),
	}, 0, 10, 5, 5, 5, 5, 80, 80, 80, 80, 82, 82, 78, 85, 0, 1, 82, 88, 0, 0)
}

// P8.2: boxes each in the one ahead, as deep as may be.
func TestDeepest(t *testing.T) {
	l := below(2*deepest+5, deepest, box(0, api.Block, api.Auto, 1, 2, 0, 1))
	want := []rect.Span{{From: 0, To: 2*deepest + 5}}
	for d := range deepest {
		left := 3 * (d + 1)
		want = append(want, rect.Span{From: left, To: left + max(0, 2*deepest+5-4*(d+1))})
	}
	same(t, width.Frames(built(t, l)), want)
	for _, c := range []struct {
		b        api.Box
		from, to int
	}{
		{box(0, api.Block, api.Auto, -big, -big, 0, 0), -big, big},
		{box(0, api.Block, api.Auto, -big, big, 0, 0), big, big},
		{box(0, api.Block, api.Auto, big, -big, 0, 0), -big, -big},
		{box(0, api.Block, api.Auto, -big, 0, 0, big), big, big},
		{box(0, api.Block, api.Auto, -big, -big, big, big), 0, 0},
	} {
		l, want := below(big, deepest, c.b), []rect.Span{{From: 0, To: big}}
		for d := range deepest {
			want = append(want, rect.Span{From: (d + 1) * c.from, To: big + (d+1)*c.to})
		}
		same(t, width.Frames(built(t, l)), want)
	}
}

// P8.2: boxes each in the one ahead, as deep as may be, with the greatest margins and edges.
func TestDeepestWithoutRoom(t *testing.T) {
	want := []rect.Span{{From: 0, To: big}}
	for d := range deepest {
		left := 2 * (d + 1) * big
		want = append(want, rect.Span{From: left, To: left})
	}
	same(t, width.Frames(built(t, below(big, deepest, box(0, api.Block, api.Auto, big, big, big, big)))), want)
}

// P8.2: Floats, and Roots, each in the one ahead, as deep as may be: all begin at 0.
func TestDeepestFromZero(t *testing.T) {
	fixed, auto := []rect.Span{{From: 0, To: 9}}, []rect.Span{{From: 0, To: 9}}
	for d := range deepest {
		fixed = append(fixed, rect.Span{From: 0, To: 8})
		auto = append(auto, rect.Span{From: 0, To: 9 + 2*(d+1)*big})
	}
	for _, kind := range []int{api.Float, api.Root} {
		same(t, width.Frames(built(t, below(9, deepest, box(0, kind, 8, big, big, big, big)))), fixed)
	}
	same(t, width.Frames(built(t, below(9, deepest, box(0, api.Root, api.Auto, -big, -big, 0, 0)))), auto)
}

// P8.2: as many boxes side by side as may be: one span for each place, in their order.
func TestMostSideBySide(t *testing.T) {
	l, want := []api.Box{page(most)}, []rect.Span{{From: 0, To: most}}
	for at := 1; at < most; at++ {
		switch at % 4 {
		case 0:
			l = append(l, box(1, api.Block, api.Auto, 0, at, 0, 0))
			want = append(want, rect.Span{From: at, To: most})
		case 1:
			l = append(l, plain(1, api.Float, at))
			want = append(want, rect.Span{From: 0, To: at})
		case 2:
			l = append(l, box(1, api.Text, at, 0, -at, 0, 0))
			want = append(want, rect.Span{From: -at, To: 0})
		case 3:
			l = append(l, box(1, api.Root, api.Auto, 0, 0, 0, at))
			want = append(want, rect.Span{From: 0, To: most - at})
		}
	}
	same(t, width.Frames(built(t, l)), want)
}

// P8.2: Frames says of each place what Content says of its box in the content around.
func TestFramesAreAsWideAsContent(t *testing.T) {
	for _, l := range several() {
		frames := width.Frames(built(t, l))
		if len(frames) != len(l) {
			t.Fatal(len(frames), len(l))
		}
		for i := 1; i < len(l); i++ {
			if wide := width.Content(l[i], frames[aroundOf(l, i)].Len()); frames[i].Len() != wide {
				t.Error(i, frames[i], wide, l)
			}
		}
	}
}

// P8.2: heights, clears, sides, and what lies at the top and the bottom, count for nothing.
func TestHeightsCountForNothing(t *testing.T) {
	for _, l := range several() {
		other := slices.Clone(l)
		for i := range other {
			if b := &other[i]; i > 0 && b.Kind != api.Atom {
				b.Height, b.Clear = i, api.Both
				b.Margins[0], b.Margins[2], b.Edges[0], b.Edges[2] = i, -2*i, 3*i, big
				if b.Kind == api.Float {
					b.Side = api.Right
				}
			}
		}
		same(t, width.Frames(built(t, other)), width.Frames(built(t, l)))
	}
}

// K5: an answer that is changed, or made longer, changes no later one, and the tree is as it was.
func TestAnswersAreNew(t *testing.T) {
	for _, l := range several() {
		x, want := built(t, l), columnsOf(l)
		kept := width.Frames(x)
		for range 2 {
			frames := width.Frames(x)
			for i := range frames[:cap(frames)] {
				frames[:cap(frames)][i] = rect.Span{From: -5, To: -9}
			}
			same(t, width.Frames(x), want)
		}
		same(t, kept, want)
		if x.Len() != len(l) {
			t.Error(x.Len(), len(l))
		}
		for i, b := range l {
			if x.Box(i) != b || x.Parent(i) != aroundOf(l, i) {
				t.Error(i, x.Box(i), b, x.Parent(i))
			}
		}
	}
}

// K6: another tree's frames in between change nothing.
func TestTreesStandApart(t *testing.T) {
	var trees []*tree.Tree
	var want [][]rect.Span
	for _, l := range several() {
		trees, want = append(trees, built(t, l)), append(want, columnsOf(l))
	}
	for n, x := range slices.Backward(trees) {
		same(t, width.Frames(x), want[n])
		same(t, width.Frames(trees[0]), want[0])
		same(t, width.Frames(x), want[n])
	}
}

package flow_test

import (
	"slices"
	"testing"

	"runaround/api"
	"runaround/flow"
	"runaround/line"
	"runaround/tree"
)

// agrees tells it if a context of a tree isn't laid as the model lays it, or doesn't keep what is promised of all.
func agrees(t *testing.T, in flow.Input, at int, f *fates) {
	t.Helper()
	answers(t, in, at, modelled(in, at, f))
	keeps(t, in, at, flow.Lay(in, at))
	if t.Failed() {
		t.FailNow()
	}
}

// opens tells whether a place is that of a Float or a Root.
func opens(x *tree.Tree, at int) bool {
	kind := x.Box(at).Kind
	return kind == api.Float || kind == api.Root
}

// members gives the places of the boxes of a context: of those whose context it is, but not of its own box.
func members(x *tree.Tree, at int) []int {
	var l []int
	for i := 1; i < x.Len() && opens(x, at); i++ {
		if x.Context(i) == at {
			l = append(l, i)
		}
	}
	return l
}

// keeps tells it if what was laid doesn't keep what is promised, however the boxes came where they are.
func keeps(t *testing.T, in flow.Input, at int, got flow.Output) {
	t.Helper()
	var places []int
	boxes := map[int]api.Rect{}
	for _, p := range got.Boxes {
		places = append(places, p.At)
		boxes[p.At] = p.Box
	}
	if want := members(in.Tree, at); !slices.Equal(places, want) {
		t.Fatalf("%v: the context of %d has %v, not %v", boxesOf(in.Tree), at, places, want)
	}
	sizes(t, in, boxes)
	apart(t, in.Tree, places, boxes)
	lineByLine(t, in.Tree, places, boxes, got.Lines)
	if got.Height < 0 {
		t.Errorf("%v: the context of %d is %d high", boxesOf(in.Tree), at, got.Height)
	}
}

// sizes tells it if boxes haven't the sizes that their edges and their contents ask for.
func sizes(t *testing.T, in flow.Input, boxes map[int]api.Rect) {
	t.Helper()
	for at, r := range boxes {
		b, content := in.Tree.Box(at), in.Frames[at]
		if r.Right-r.Left != content.To-content.From+b.Edges[1]+b.Edges[3] {
			t.Errorf("%v: %d is at %v", boxesOf(in.Tree), at, r)
		}
		height := b.Height
		if height == api.Auto && opens(in.Tree, at) {
			height = in.Heights[at]
		}
		height += b.Edges[0] + b.Edges[2]
		if b.Height == api.Auto && !opens(in.Tree, at) && r.Bottom-r.Top >= height+1 {
			continue // what stands in it makes it higher than its edges
		}
		if r.Bottom-r.Top != height {
			t.Errorf("%v: %d is at %v", boxesOf(in.Tree), at, r)
		}
	}
}

// margin gives a Float's margin box.
func margin(b api.Box, r api.Rect) api.Rect {
	return box(r.Left-b.Margins[3], r.Top-b.Margins[0], r.Right+b.Margins[1], r.Bottom+b.Margins[2])
}

// P17.2: no full margin box of a Float meets one of another Float, nor the box of a Root that stands behind it. And it
// begins no higher than one ahead of it.
func apart(t *testing.T, x *tree.Tree, places []int, boxes map[int]api.Rect) {
	t.Helper()
	var floats []api.Rect
	for _, at := range places {
		b := x.Box(at)
		r := boxes[at]
		switch b.Kind {
		case api.Float:
			r = margin(b, r)
			for _, f := range floats {
				if full(r) && full(f) && meet(f, r) || f.Top > r.Top {
					t.Errorf("%v: %d is at %v, ahead of it one at %v", boxesOf(x), at, r, f)
				}
			}
			floats = append(floats, r)
		case api.Root:
			for _, f := range floats {
				if full(f) && meet(f, r) {
					t.Errorf("%v: %d is at %v, ahead of it a Float at %v", boxesOf(x), at, r, f)
				}
			}
		}
	}
}

// atomsOf gives the Atoms of a Text, in order.
func atomsOf(x *tree.Tree, at int) []int {
	return slices.DeleteFunc(x.Children(at), func(child int) bool { return x.Box(child).Kind != api.Atom })
}

// P17.2, P17.1: lines have all Atoms of all Texts, each once and in order; Atoms stand on their lines side by side; and no
// full margin box of a Float that stands ahead of a line's first Atom meets the line's box.
func lineByLine(t *testing.T, x *tree.Tree, places []int, boxes map[int]api.Rect, lines []flow.Line) {
	t.Helper()
	for _, text := range places {
		if x.Box(text).Kind != api.Text {
			continue
		}
		atoms := atomsOf(x, text)
		for len(atoms) > 0 {
			if len(lines) == 0 || lines[0].At != text || lines[0].Line.Atoms > len(atoms) || lines[0].Line.Atoms < 1 {
				t.Fatalf("%v: %d has the Atoms %v, and lines %v", boxesOf(x), text, atoms, lines)
			}
			l := lines[0].Line
			onLine(t, x, atoms[:l.Atoms], boxes, l)
			atoms, lines = atoms[l.Atoms:], lines[1:]
		}
	}
	if len(lines) > 0 {
		t.Errorf("%v: lines %v have no Atoms", boxesOf(x), lines)
	}
}

// onLine tells it if Atoms don't stand on a line, or a Float ahead of them reaches into it.
func onLine(t *testing.T, x *tree.Tree, atoms []int, boxes map[int]api.Rect, l line.Line) {
	t.Helper()
	from := l.Box.Left
	for _, at := range atoms {
		b := x.Box(at)
		if boxes[at] != box(from, l.Box.Top, from+b.Width, l.Box.Top+b.Height) || boxes[at].Bottom > l.Box.Bottom {
			t.Errorf("%v: %d is at %v, on %v", boxesOf(x), at, boxes[at], l)
		}
		from += b.Width
	}
	for at, r := range boxes {
		if b := x.Box(at); b.Kind == api.Float && at < atoms[0] && full(margin(b, r)) && meet(margin(b, r), l.Box) {
			t.Errorf("%v: %d is at %v, in the line %v", boxesOf(x), at, r, l)
		}
	}
}

// few gives a few boxes.
func few() []api.Box {
	f := float(0, api.Left, 5, 4)
	f.Margins = [4]int{1, 0, -2, 0}
	return []api.Box{
		block(0, 2, -1), text(0, 3, 4), left(block(0, 3, 1)), clearing(api.Both, text(0, -1, 5)),
		edged(1, 0, block(0, 1, 6)), edged(0, 1, left(block(0, 4, 6))), high(0, clearing(api.Right, block(0, 5, 1))),
		f, clearing(api.Both, float(0, api.Right, 6, 7)), root(0, 33, 2, 5, 1), left(root(0, 9, 3, -5, 2)), atom(0, 4, 1),
	}
}

// All trees of a page with up to four of a few boxes in it.
func TestAllOfAFew(t *testing.T) {
	f := &fates{}
	var add func(l []api.Box)
	add = func(l []api.Box) {
		if _, _, e := tree.Build(l); e != api.OK {
			return
		}
		agrees(t, asked(t, l), 0, f) // a Float's or a Root's own context is as a page's
		if len(l) == 5 {
			return
		}
		for _, b := range few() {
			for depth := 1; depth <= l[len(l)-1].Depth+1; depth++ {
				b.Depth = depth
				add(append(slices.Clone(l), b))
			}
		}
	}
	add(page())
}

// chosen gives numbers by a rule of its own.
type chosen uint64

// to gives one from 0 to n, without n.
func (c *chosen) to(n int) int {
	*c = *c*6364136223846793005 + 1442695040888963407
	return int(*c>>34) % n
}

// one tells whether the one of n comes about.
func (c *chosen) one(n int) bool { return c.to(n) == 0 }

// clear gives what is cleared: mostly nothing, where n is great.
func (c *chosen) clear(n int) int {
	if c.one(n) {
		return 1 + c.to(3)
	}
	return api.None
}

// depth gives a depth that may stand behind another one; lesser ones are rarer.
func (c *chosen) depth(last int) int { return max(1, last+1-c.to(3)*c.to(2)) }

// flowing gives a Block or a Text; most of them are empty by themselves.
func (c *chosen) flowing(depth int) api.Box {
	b := flowingBox(depth, []int{api.Block, api.Block, api.Text}[c.to(3)], c.to(16)-5, c.to(16)-5)
	b.Clear = c.clear(3)
	switch c.to(16) {
	case 0:
		b.Edges[0] = 1 + c.to(3)
	case 1:
		b.Edges[2] = 1 + c.to(3)
	case 2:
		b.Height = c.to(8)
	case 3:
		b.Margins[1], b.Margins[3], b.Edges[1], b.Edges[3] = c.to(6)-2, c.to(6)-2, c.to(3), c.to(3)
	case 4:
		b.Width = c.to(30)
	}
	return b
}

// float gives a Float; a few have margins and edges, a few are wide, and a few have contents of their own.
func (c *chosen) float(depth int) api.Box {
	b := clearing(c.clear(6), float(depth, 1+c.to(2), c.to(9), c.to(14)))
	switch c.to(8) {
	case 0:
		b.Margins = [4]int{c.to(9) - 4, c.to(9) - 4, c.to(9) - 4, c.to(9) - 4}
		b.Edges = [4]int{c.to(3), c.to(3), c.to(3), c.to(3)}
	case 1:
		b.Width += c.to(40)
	case 2:
		b.Height = api.Auto
	}
	return b
}

// root gives a Root.
func (c *chosen) root(depth int) api.Box {
	b := clearing(c.clear(2), root(depth, c.to(44)-1, c.to(9)-1, c.to(16)-5, c.to(16)-5))
	if c.one(4) {
		b.Margins[1], b.Margins[3], b.Edges = c.to(9)-4, c.to(9)-4, [4]int{c.to(3), c.to(3), c.to(3), c.to(3)}
	}
	return b
}

// box gives a box that may stand behind another one, or may not. Most of those that stand behind an Atom go on with its
// Text.
func (c *chosen) box(last api.Box) api.Box {
	depth := c.depth(last.Depth)
	if last.Kind == api.Atom && !c.one(4) {
		depth = last.Depth
		if !c.one(3) {
			return atom(depth, c.to(18), c.to(4))
		}
	}
	switch c.to(12) {
	case 0, 1, 2:
		return c.float(depth)
	case 3, 4:
		return atom(depth, c.to(18), c.to(4))
	case 5, 6:
		return c.root(depth)
	}
	return c.flowing(depth)
}

// input gives a tree of so many boxes, with heights of contents that are any.
func (c *chosen) input(t *testing.T, n int) flow.Input {
	t.Helper()
	l := page()
	l[0].Width = 10 + c.to(31)
	heights := []int{0}
	for len(l) < n {
		longer := append(l, c.box(l[len(l)-1]))
		if _, _, e := tree.Build(longer); e == api.OK {
			l, heights = longer, append(heights, c.to(12))
		}
	}
	return asked(t, l, heights...)
}

// Trees of all kinds; and of each of their fates there are many.
func TestOfManyTrees(t *testing.T) {
	f := &fates{}
	for seed := range 6000 {
		c := chosen(seed)
		in := c.input(t, 2+c.to(40))
		for at := -1; at <= in.Tree.Len(); at++ {
			agrees(t, in, at, f)
		}
	}
	for _, n := range []int{
		f.waits, f.placed, f.sides, f.moved, f.kept, f.edge, f.stands, f.stays, f.idle, f.left, f.passed,
		f.high, f.foot, f.held, f.through, f.over, f.rootClears, f.rootSides, f.beside, f.below, f.outside,
		f.first, f.texts, f.ahead, f.behind, f.lines, f.many,
	} {
		if n < 100 {
			t.Fatalf("%+v", *f)
		}
	}
}

// K6: contexts of several trees, taken in turn, have nothing to do with each other.
func TestContextsStandApart(t *testing.T) {
	c := chosen(7)
	f := &fates{}
	one, other := c.input(t, 40), c.input(t, 40)
	for range 5 {
		for at := range 40 {
			answers(t, one, at, modelled(one, at, f))
			answers(t, other, at, modelled(other, at, f))
		}
	}
}

// A context hangs on no heights but those of the Floats and Roots within that are Auto, and on nothing that stands in
// those, nor outside of it.
func TestWhatAContextHangsOn(t *testing.T) {
	for seed := range 300 {
		c := chosen(seed)
		in := c.input(t, 30)
		for at := range in.Tree.Len() {
			want := flow.Lay(in, at)
			heights := slices.Clone(in.Heights)
			for i := range heights {
				if b := in.Tree.Box(i); in.Tree.Context(i) != at || !opens(in.Tree, i) || b.Height != api.Auto || i == at {
					heights[i] += 1 + c.to(9)
				}
			}
			answers(t, flow.Input{Tree: in.Tree, Frames: in.Frames, Heights: heights}, at, want)
		}
		if t.Failed() {
			return
		}
	}
}

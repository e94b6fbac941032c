package layout_test

import (
	"slices"
	"testing"

	"runaround/api"
	"runaround/context"
	"runaround/layout"
	"runaround/rect"
	"runaround/script"
	"runaround/tree"
)

// model tells where things are in the chapter's words, each asked for by itself, from the inside out.
type model struct {
	tree *tree.Tree
	laid context.Result
}

// begins gives where the content of a context begins, as the first box sees it.
func (m model) begins(context int) (int, int) {
	edges := m.tree.Box(context).Edges
	b := m.box(context)
	return b.Left + edges[3], b.Top + edges[0]
}

// box gives where a box is, as the first one sees it.
func (m model) box(at int) api.Rect {
	if at == 0 {
		b, content := m.tree.Box(0), m.laid.Frames[0]
		return box(0, 0, content.To-content.From+b.Edges[1]+b.Edges[3], m.laid.Heights[0]+b.Edges[0]+b.Edges[2])
	}
	p, _ := m.laid.Find(m.tree, at)
	x, y := m.begins(m.tree.Context(at))
	return rect.Shift(p.Box, x, y)
}

// lines gives the lines of a Text.
func (m model) lines(at int) []layout.Line {
	var l []layout.Line
	context := m.tree.Context(at)
	x, y := m.begins(context)
	ended := 0 // Atoms of the lines ahead
	for _, laid := range m.laid.Outputs[context].Lines {
		if laid.At == at {
			l = append(l, lineOf(at, rect.Shift(laid.Line.Box, x, y), m.atom(at, ended), laid.Line.Atoms))
			ended += laid.Line.Atoms
		}
	}
	return l
}

// atom gives the place of a Text's Atom behind so many others.
func (m model) atom(text, others int) int {
	for at := range m.tree.Len() {
		if m.tree.Parent(at) != text || m.tree.Box(at).Kind != api.Atom {
			continue
		}
		if others == 0 {
			return at
		}
		others--
	}
	return -1
}

// modelled gives what Of should answer.
func modelled(x *tree.Tree) layout.Geometry {
	m := model{tree: x, laid: context.All(x)}
	var g layout.Geometry
	for at := range x.Len() {
		g.Boxes = append(g.Boxes, m.box(at))
		if x.Box(at).Kind == api.Text {
			g.Lines = append(g.Lines, m.lines(at)...)
		}
	}
	return g
}

// keeps tells it if what is promised of a tree isn't so, and gives what Of answers of it.
func keeps(t *testing.T, x *tree.Tree) layout.Geometry {
	t.Helper()
	g, e := layout.Of(x)
	if want := modelled(x); !same(g, want) || e != api.OK {
		t.Fatalf("%v:\n%v, %v, not\n%v", boxesOf(x), g, e, want)
	}
	h, at, e := layout.Layout(script.Encode(boxesOf(x)))
	if !same(h, g) || at != -1 || e != api.OK {
		t.Fatalf("%v:\n%v, %v, %v, not\n%v", boxesOf(x), h, at, e, g)
	}
	atomsInLines(t, x, g)
	insides := slices.Clone(g.Boxes)
	for _, l := range g.Lines {
		insides = append(insides, l.Box)
	}
	want, ok := least(insides)
	if got, gotOK := g.Bounds(); got != want || gotOK != ok {
		t.Fatalf("%v: %v, %v, not %v, %v", g, got, gotOK, want, ok)
	}
	return g
}

// atomsInLines tells it if not all Atoms, in order, are in their Texts' lines, each once, and stand there: the first one
// at the line's left, the next ones at the right of those ahead, all at its top; or if lines aren't in order.
func atomsInLines(t *testing.T, x *tree.Tree, g layout.Geometry) {
	t.Helper()
	var told, want []int
	for at := range x.Len() {
		for _, child := range x.Children(at) {
			if x.Box(child).Kind == api.Atom {
				want = append(want, child)
			}
		}
	}
	for _, l := range g.Lines {
		left := l.Box.Left
		at := l.First
		for range l.Atoms {
			for x.Parent(at) != l.At || x.Box(at).Kind != api.Atom {
				at++
			}
			b := x.Box(at)
			if stand := box(left, l.Box.Top, left+b.Width, l.Box.Top+b.Height); g.Boxes[at] != stand {
				t.Fatalf("%v: %d at %v, not %v, in %v", boxesOf(x), at, g.Boxes[at], stand, l)
			}
			told = append(told, at)
			left += b.Width
			at++
		}
	}
	if !slices.Equal(told, want) {
		t.Fatalf("%v: %v, not %v, in %v", boxesOf(x), told, want, g.Lines)
	}
}

// answersAsItShould tells it if numbers aren't laid, or refused, as Decode and Build say, and gives the error.
func answersAsItShould(t *testing.T, numbers []int) api.Errno {
	t.Helper()
	l, e := script.Decode(numbers)
	if e != api.OK {
		refuses(t, numbers, -1, e)
		return e
	}
	x, at, e := tree.Build(l)
	if e != api.OK {
		refuses(t, numbers, at, e)
		return e
	}
	keeps(t, x)
	return api.OK
}

// few gives a few boxes.
func few() []api.Box {
	margins, edges := sides(1, 2, 3, 4), sides(2, 0, 1, 3)
	b := framed(root(0, api.Auto), margins, edges)
	b.Width = 12
	return []api.Box{
		framed(float(0, api.Left, 7, api.Auto), margins, edges), float(0, api.Right, 30, 4),
		b, framed(root(0, 4), [4]int{}, sides(0, 0, 0, 1)), framed(block(0, 5), margins, edges), block(0, api.Auto),
		text(0), atom(0, 5, 2),
	}
}

// All trees of a page with up to four of a few boxes in it.
func TestAllOfAFew(t *testing.T) {
	var add func(l []api.Box)
	add = func(l []api.Box) {
		x, _, e := tree.Build(l)
		if e != api.OK {
			return
		}
		keeps(t, x)
		if len(l) == 5 {
			return
		}
		for _, b := range few() {
			for b.Depth = 1; b.Depth <= l[len(l)-1].Depth+1; b.Depth++ {
				add(append(slices.Clone(l), b))
			}
		}
	}
	add(page(sides(1, 2, 3, 4)))
}

// chosen gives numbers by a rule of its own.
type chosen uint64

// to gives one from 0 to n, without n.
func (c *chosen) to(n int) int {
	*c = *c*6364136223846793005 + 1442695040888963407
	return int(*c>>34) % n
}

// height gives a Height: Auto, mostly, or 0, or one above it.
func (c *chosen) height() int {
	switch c.to(5) {
	case 0:
		return 0
	case 1:
		return 1 + c.to(20)
	}
	return api.Auto
}

// edges gives edges.
func (c *chosen) edges() [4]int { return sides(c.to(3), c.to(3), c.to(3), c.to(3)) }

// depth gives the Depth of a box that stands behind another one; lesser depths are rarer.
func (c *chosen) depth(last api.Box) int {
	switch {
	case c.to(8) == 0:
		return 1 + c.to(last.Depth+1)
	case last.Kind == api.Atom && c.to(3) > 0:
		return last.Depth
	}
	return max(1, last.Depth+1-c.to(3)*c.to(2))
}

// box gives a box that may stand behind another one, or may not.
func (c *chosen) box(last api.Box) api.Box {
	depth := c.depth(last)
	kind := []int{api.Block, api.Float, api.Root, api.Text, api.Atom, api.Float, api.Atom, api.Text}[c.to(8)]
	if kind == api.Atom {
		return atom(depth, c.to(12), c.to(4))
	}
	b := api.Box{Depth: depth, Kind: kind, Width: api.Auto, Height: c.height()}
	if kind == api.Float {
		b.Side, b.Width = 1+c.to(2), c.to(20)
	}
	if c.to(2) == 0 {
		b.Margins = sides(c.to(9)-3, c.to(5)-2, c.to(9)-3, c.to(5)-2)
		b.Edges = c.edges()
	}
	if c.to(4) == 0 {
		b.Clear = 1 + c.to(3)
	}
	return b
}

// list gives so many boxes that are a tree.
func (c *chosen) list(n int) []api.Box {
	l := page(c.edges())
	l[0].Width, l[0].Height = 10+c.to(31), c.height()
	for len(l) < n {
		longer := append(l, c.box(l[len(l)-1]))
		if _, _, e := tree.Build(longer); e == api.OK {
			l = longer
		}
	}
	return l
}

// fates counts what the things in trees are like.
type fates struct{ floats, roots, deep, moved, below, lines, inner, ahead, among, turned int }

// count counts one fate more, if it is so.
func count(n *int, so bool) {
	if so {
		*n++
	}
}

// watch counts what the things in a tree are like.
func (f *fates) watch(x *tree.Tree, g layout.Geometry) {
	m := model{tree: x, laid: context.All(x)}
	for at := 1; at < x.Len(); at++ {
		b, around := x.Box(x.Parent(at)), x.Context(at)
		count(&f.floats, b.Kind == api.Float && x.Box(at).Kind == api.Float)
		count(&f.roots, b.Kind == api.Block && x.Box(at).Kind == api.Root)
		count(&f.deep, x.Context(x.Context(around)) > 0)
		left, top := m.begins(around)
		count(&f.moved, around > 0 && left > 0 && top > 0)
		count(&f.below, g.Boxes[at].Left < 0 || g.Boxes[at].Top < 0)
	}
	for i, l := range g.Lines {
		context := x.Context(l.At)
		count(&f.lines, i > 0 && g.Lines[i-1].At == l.At)
		count(&f.inner, context > 0 && l.Box.Left > 0)
		count(&f.ahead, i > 0 && g.Lines[i-1].At != l.At && x.Context(g.Lines[i-1].At) > context)
		count(&f.among, l.First > l.At+1 && l.Atoms > 1)
		count(&f.turned, i > 0 && x.Context(g.Lines[i-1].At) < context)
	}
}

// Trees of all kinds; and of each sort of thing there are many.
func TestOfManyTrees(t *testing.T) {
	f := &fates{}
	for seed := range 4000 {
		c := chosen(seed)
		x := built(t, c.list(2+c.to(40)))
		f.watch(x, keeps(t, x))
	}
	for _, n := range []int{f.floats, f.roots, f.deep, f.moved, f.below, f.lines, f.inner, f.ahead, f.among, f.turned} {
		if n < 300 {
			t.Fatalf("%+v", *f)
		}
	}
}

// P19.1: what stands in a Float, or a Root, stands there, seen from its content, as it would in a first box with the same
// content: the whole context is moved.
func TestContextsMoveAsAWhole(t *testing.T) {
	for seed := range 500 {
		c := chosen(seed)
		x := built(t, c.list(2+c.to(40)))
		g := keeps(t, x)
		laid := context.All(x)
		for _, at := range x.Contexts() {
			b := x.Box(at)
			l := []api.Box{{Kind: api.Root, Width: laid.Frames[at].Len(), Height: b.Height, Edges: b.Edges}}
			for inner := at + 1; inner < x.End(at); inner++ {
				l = append(l, x.Box(inner))
				l[len(l)-1].Depth -= b.Depth
			}
			alone := keeps(t, built(t, l))
			for i, r := range alone.Boxes {
				if want := rect.Shift(r, g.Boxes[at].Left, g.Boxes[at].Top); g.Boxes[at+i] != want {
					t.Fatalf("%v: %d at %v, not %v", boxesOf(x), at+i, g.Boxes[at+i], want)
				}
			}
			for _, line := range alone.Lines {
				line.At, line.First, line.Box = line.At+at, line.First+at, rect.Shift(line.Box, g.Boxes[at].Left, g.Boxes[at].Top)
				if !slices.Contains(g.Lines, line) {
					t.Fatalf("%v: no %v in %v", boxesOf(x), line, g.Lines)
				}
			}
		}
	}
}

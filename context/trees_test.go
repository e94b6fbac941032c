package context_test

import (
	"slices"
	"testing"

	"runaround/api"
	"runaround/context"
	"runaround/flow"
	"runaround/tree"
	"runaround/width"
)

// opens tells whether a place is that of a Float or a Root.
func opens(x *tree.Tree, at int) bool {
	kind := x.Box(at).Kind
	return kind == api.Float || kind == api.Root
}

// contentOf gives how high the content of a Float or a Root is, in the chapter's words, and keeps that of all that it
// asks for within.
func contentOf(x *tree.Tree, at int, heights []int) int {
	if own := x.Box(at).Height; own != api.Auto {
		return own
	}
	for inner := at + 1; inner < x.Len(); inner++ {
		if opens(x, inner) && x.Context(inner) == at {
			heights[inner] = contentOf(x, inner, heights)
		}
	}
	return flow.Lay(flow.Input{Tree: x, Frames: width.Frames(x), Heights: heights}, at).Height
}

// modelled gives what All should answer: each content's height is asked for by itself, from the outside in.
func modelled(x *tree.Tree) context.Result {
	n := x.Len()
	r := context.Result{Frames: width.Frames(x), Heights: make([]int, n), Outputs: make([]flow.Output, n)}
	for at := range n {
		if opens(x, at) {
			r.Heights[at] = contentOf(x, at, make([]int, n))
		}
	}
	for at := range n {
		if opens(x, at) {
			r.Outputs[at] = flow.Lay(flow.Input{Tree: x, Frames: r.Frames, Heights: r.Heights}, at)
		}
	}
	return r
}

// keeps tells it if what is promised of a tree isn't so, and gives what All answers of it.
func keeps(t *testing.T, x *tree.Tree) context.Result {
	t.Helper()
	r := context.All(x)
	if want := modelled(x); !same(r, want) {
		t.Fatalf("%v:\n%v, not\n%v", boxesOf(x), r, want)
	}
	findsAll(t, x, r)
	return r
}

// findsAll tells it if not each box but the first one is found, where the context in which it stands has it, and is in
// the Boxes of no other one.
func findsAll(t *testing.T, x *tree.Tree, r context.Result) {
	t.Helper()
	found := map[int]int{}
	for at, out := range r.Outputs {
		for _, p := range out.Boxes {
			if x.Context(p.At) != at {
				t.Errorf("%v: %d has %v", boxesOf(x), at, p)
			}
			finds(t, x, r, p)
			found[p.At]++
		}
	}
	for at := 1; at < x.Len(); at++ {
		if found[at] != 1 {
			t.Errorf("%v: %d is in the Boxes of %d contexts", boxesOf(x), at, found[at])
		}
	}
	nowhere(t, x, r)
	if t.Failed() {
		t.FailNow()
	}
}

// few gives a few boxes.
func few() []api.Box {
	beside := apart(2, 1, root(0, api.Auto))
	beside.Width = 30
	return []api.Box{
		float(0, 6, api.Auto), apart(1, 2, float(0, 20, 0)), edged(1, 1, float(0, 6, 3)),
		beside, edged(0, 2, root(0, 4)), apart(2, 1, block(0, 5)), block(0, api.Auto), text(0), atom(0, 5, 2),
	}
}

// All trees of a page with up to four of a few boxes in it.
func TestAllOfAFew(t *testing.T) {
	var add func(l []api.Box)
	add = func(l []api.Box) {
		x, _, e := tree.Build(l)
		if e != api.OK {
			return
		}
		keeps(t, x)
		if len(l) == 5 {
			return
		}
		for _, b := range few() {
			for b.Depth = 1; b.Depth <= l[len(l)-1].Depth+1; b.Depth++ {
				add(append(slices.Clone(l), b))
			}
		}
	}
	add(page())
}

// chosen gives numbers by a rule of its own.
type chosen uint64

// to gives one from 0 to n, without n.
func (c *chosen) to(n int) int {
	*c = *c*6364136223846793005 + 1442695040888963407
	return int(*c>>34) % n
}

// height gives a Height: Auto, mostly, or 0, or one above it.
func (c *chosen) height() int {
	switch c.to(5) {
	case 0:
		return 0
	case 1:
		return 1 + c.to(20)
	}
	return api.Auto
}

// box gives a box that may stand behind another one, or may not; lesser depths are rarer.
func (c *chosen) box(last api.Box) api.Box {
	depth := max(1, last.Depth+1-c.to(3)*c.to(2))
	if last.Kind == api.Atom && c.to(3) > 0 {
		depth = last.Depth
	}
	kind := []int{api.Block, api.Float, api.Root, api.Text, api.Atom, api.Float, api.Atom}[c.to(7)]
	if kind == api.Atom {
		return atom(depth, c.to(12), c.to(4))
	}
	b := api.Box{Depth: depth, Kind: kind, Width: api.Auto, Height: c.height()}
	if kind == api.Float {
		b.Side, b.Width = 1+c.to(2), c.to(20)
	}
	if c.to(3) == 0 {
		b.Margins = [4]int{c.to(9) - 3, c.to(5) - 2, c.to(9) - 3, c.to(5) - 2}
		b.Edges = [4]int{c.to(3), c.to(3), c.to(3), c.to(3)}
	}
	if c.to(4) == 0 {
		b.Clear = 1 + c.to(3)
	}
	return b
}

// list gives so many boxes that are a tree.
func (c *chosen) list(n int) []api.Box {
	l := page()
	l[0].Width, l[0].Height = 10+c.to(31), c.height()
	for len(l) < n {
		longer := append(l, c.box(l[len(l)-1]))
		if _, _, e := tree.Build(longer); e == api.OK {
			l = longer
		}
	}
	return l
}

// fates counts what contexts are like that stand in others.
type fates struct{ auto, zero, less, more, floats, roots, atoms, deep, moves int }

// count counts one fate more, if it is so.
func count(n *int, so bool) {
	if so {
		*n++
	}
}

// watch counts what the contexts of a tree are like.
func (f *fates) watch(x *tree.Tree, r context.Result) {
	for at := 1; at < x.Len(); at++ {
		if !opens(x, at) {
			continue
		}
		b, around, out := x.Box(at), x.Context(at), r.Outputs[at]
		parent := x.Box(x.Parent(at))
		count(&f.auto, b.Height == api.Auto && out.Height > 0)
		count(&f.zero, b.Height == 0 && out.Height > 0)
		count(&f.less, b.Height > 0 && b.Height < out.Height)
		count(&f.more, b.Height > out.Height && len(out.Boxes) > 0)
		count(&f.floats, b.Kind == api.Float && parent.Kind == api.Float && len(out.Boxes) > 0)
		count(&f.roots, b.Kind == api.Root && parent.Kind == api.Block && len(out.Boxes) > 0)
		count(&f.atoms, parent.Kind == api.Text && x.Box(at-1).Kind == api.Atom && len(out.Boxes) > 0)
		count(&f.deep, x.Context(x.Context(around)) > 0)
		high := b.Height == api.Auto && x.Box(around).Height == api.Auto && out.Height > 0
		count(&f.moves, high && around > 0 && r.Heights[around] >= out.Height)
	}
}

// Trees of all kinds; and of each sort of context there are many.
func TestOfManyTrees(t *testing.T) {
	f := &fates{}
	for seed := range 4000 {
		c := chosen(seed)
		x := built(t, c.list(2+c.to(40)))
		f.watch(x, keeps(t, x))
	}
	for _, n := range []int{f.auto, f.zero, f.less, f.more, f.floats, f.roots, f.atoms, f.deep, f.moves} {
		if n < 500 {
			t.Fatalf("%+v", *f)
		}
	}
}

// P18.1: with another Height of the first box all stays but the height of its content.
func TestOtherHeightsOfTheFirstBox(t *testing.T) {
	for seed := range 300 {
		c := chosen(seed)
		l := c.list(2 + c.to(30))
		want := context.All(built(t, l))
		for _, height := range []int{api.Auto, 0, 1, 50, api.MaxSize} {
			l[0].Height = height
			want.Heights[0] = height
			if height == api.Auto {
				want.Heights[0] = want.Outputs[0].Height
			}
			if got := context.All(built(t, l)); !same(got, want) {
				t.Fatalf("%v: %v, not %v", l, got, want)
			}
		}
	}
}

// cutOut gives a Float or a Root, and all within, as a tree of its own, as wide as it was.
func cutOut(t *testing.T, x *tree.Tree, at, wide int) *tree.Tree {
	t.Helper()
	b := x.Box(at)
	l := []api.Box{{Kind: api.Root, Width: wide, Height: b.Height, Edges: b.Edges}}
	for inner := at + 1; inner < x.End(at); inner++ {
		l = append(l, x.Box(inner))
		l[len(l)-1].Depth -= b.Depth
	}
	return built(t, l)
}

// from gives an Output whose places are so many more.
func from(at int, out flow.Output) flow.Output {
	for i := range out.Boxes {
		out.Boxes[i].At += at
	}
	for i := range out.Lines {
		out.Lines[i].At += at
	}
	return out
}

// P18.1: a content hangs on nothing outside but how wide it is: without all that stands around it's as it was.
func TestContentsHangOnNothingOutside(t *testing.T) {
	for seed := range 500 {
		c := chosen(seed)
		x := built(t, c.list(2+c.to(40)))
		r := context.All(x)
		for at := range x.Len() {
			if !opens(x, at) {
				continue
			}
			alone := context.All(cutOut(t, x, at, r.Frames[at].Len()))
			for i, out := range alone.Outputs {
				alone.Outputs[i] = from(at, out)
			}
			end := x.End(at)
			if got := (context.Result{Frames: r.Frames[at:end], Heights: r.Heights[at:end], Outputs: r.Outputs[at:end]}); !same(got, alone) {
				t.Fatalf("%v, %d: %v, not %v", boxesOf(x), at, got, alone)
			}
		}
	}
}

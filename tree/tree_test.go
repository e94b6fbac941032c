package tree_test

import (
	"math"
	"slices"
	"testing"

	"runaround/api"
	"runaround/tree"
)

// most is how many boxes a tree may have, deepest how deep they may lie.
const (
	most    = 65536
	deepest = 256
)

// box gives a box of a kind, or of none, of which nothing else is wrong.
func box(depth, kind int) api.Box {
	b := api.Box{Depth: depth, Kind: kind}
	if kind == api.Float {
		b.Side = api.Left
	}
	return b
}

// marked gives each box a Width of its own, so that no two of a list are the same.
func marked(l []api.Box) []api.Box {
	for i := range l {
		l[i].Width = 1000 + i
	}
	return l
}

// listed gives the boxes of depths and kinds, which stand in turn.
func listed(depthsAndKinds ...int) []api.Box {
	var l []api.Box
	for pair := range slices.Chunk(depthsAndKinds, 2) {
		l = append(l, box(pair[0], pair[1]))
	}
	return marked(l)
}

// chain gives a Root and boxes of a kind, each in the one ahead, down to a depth.
func chain(depth, kind int) []api.Box {
	l := []api.Box{box(0, api.Root)}
	for d := range depth {
		l = append(l, box(d+1, kind))
	}
	return marked(l)
}

// flat gives a Root and Blocks that stand in it, so many boxes in all.
func flat(boxes int) []api.Box {
	l := []api.Box{box(0, api.Root)}
	for len(l) < boxes {
		l = append(l, box(1, api.Block))
	}
	return marked(l)
}

// grown gives boxes that may be a tree. seed chooses them, by a rule of its own; steep ones lie deeper.
func grown(seed uint64, boxes int, steep bool) []api.Box {
	l := []api.Box{box(0, api.Root)}
	for len(l) < boxes {
		seed = seed*6364136223846793005 + 1442695040888963407
		chosen := int(seed >> 34)
		last := l[len(l)-1].Depth
		depth := 1 + chosen%(last+1)
		if steep {
			depth = max(1, last+1-chosen%3)
		}
		l = append(l, box(min(depth, deepest), 1+chosen/1000%5))
		if parent := l[parentOf(l, len(l)-1)]; !slices.Contains(within(parent.Kind), l[len(l)-1].Kind) {
			l = l[:len(l)-1]
		}
	}
	return marked(l)
}

// several gives lists of boxes that may be trees.
func several() [][]api.Box {
	const block, float, root, text, atom = api.Block, api.Float, api.Root, api.Text, api.Atom
	all := [][]api.Box{
		listed(0, root),
		listed(0, root, 1, block),
		listed(0, root, 1, float, 1, float, 1, root, 1, text),
		listed(0, root, 1, block, 2, block, 3, block, 2, block, 1, block),
		listed(0, root, 1, text, 2, atom, 2, float, 2, atom, 2, float, 3, text, 4, atom, 4, float, 2, atom),
		listed(0, root, 1, float, 2, float, 3, float, 3, block, 2, root, 1, block, 2, text, 3, float, 4, root, 5, block, 1, text),
		listed(0, root, 1, block, 2, root, 3, block, 4, float, 5, block, 6, text, 7, atom, 3, block, 2, block, 1, block),
		chain(7, block),
		chain(deepest, float),
		flat(40),
	}
	for seed := range 40 {
		all = append(all, grown(uint64(seed), 2+3*seed, seed%2 == 1))
	}
	return all
}

// within tells which kinds fit into a box of one.
func within(kind int) []int {
	switch kind {
	case api.Block, api.Float, api.Root:
		return []int{api.Block, api.Float, api.Root, api.Text}
	case api.Text:
		return []int{api.Float, api.Atom}
	}
	return nil
}

// parentOf looks for the last box ahead that is just one less deep.
func parentOf(l []api.Box, i int) int {
	for j := i - 1; j >= 0; j-- {
		if l[j].Depth == l[i].Depth-1 {
			return j
		}
	}
	return -1
}

// around gives the places of the boxes in which one stands, or in which these stand, the nearest first.
func around(l []api.Box, i int) []int {
	var places []int
	for p := parentOf(l, i); p >= 0; p = parentOf(l, p) {
		places = append(places, p)
	}
	return places
}

// endOf looks for the last box that stands in one, or in one that does, and so on.
func endOf(l []api.Box, i int) int {
	end := i + 1
	for j := range l {
		if slices.Contains(around(l, j), i) {
			end = j + 1
		}
	}
	return end
}

// childrenOf looks for the boxes that stand in one.
func childrenOf(l []api.Box, i int) []int {
	var children []int
	for j := range l {
		if parentOf(l, j) == i {
			children = append(children, j)
		}
	}
	return children
}

// contextOf looks for the last Float or Root around a box.
func contextOf(l []api.Box, i int) int {
	for _, j := range around(l, i) {
		if l[j].Kind == api.Float || l[j].Kind == api.Root {
			return j
		}
	}
	return 0
}

// contextsOf looks for all Floats and Roots, from the last one on.
func contextsOf(l []api.Box) []int {
	var contexts []int
	for i, b := range slices.Backward(l) {
		if b.Kind == api.Float || b.Kind == api.Root {
			contexts = append(contexts, i)
		}
	}
	return contexts
}

// built gives the tree of boxes of which nothing may be wrong.
func built(t *testing.T, l []api.Box) *tree.Tree {
	t.Helper()
	x, at, e := tree.Build(l)
	if x == nil || at != -1 || e != api.OK {
		t.Fatal(len(l), x == nil, at, e)
	}
	return x
}

// holds tells whether a tree answers what the chapter's words say of the list, and tells where it doesn't.
func holds(t *testing.T, x *tree.Tree, l []api.Box) {
	t.Helper()
	if x.Len() != len(l) {
		t.Fatal(x.Len(), len(l))
	}
	for i := range l {
		if b := x.Box(i); b != l[i] {
			t.Error("Box", i, b, l[i])
		}
		if parent := x.Parent(i); parent != parentOf(l, i) {
			t.Error("Parent", i, parent, l)
		}
		if end := x.End(i); end != endOf(l, i) {
			t.Error("End", i, end, l)
		}
		if children := x.Children(i); !slices.Equal(children, childrenOf(l, i)) {
			t.Error("Children", i, children, l)
		}
		if context := x.Context(i); context != contextOf(l, i) {
			t.Error("Context", i, context, l)
		}
	}
	if contexts := x.Contexts(); !slices.Equal(contexts, contextsOf(l)) {
		t.Error("Contexts", contexts, l)
	}
}

// P6.1, P6.2, P6.3: example 1.
func TestExample(t *testing.T) {
	l := []api.Box{{Kind: api.Root}}
	x := built(t, l)
	if x.Len() != 1 || x.Box(0) != l[0] || x.Parent(0) != -1 || x.End(0) != 1 || len(x.Children(0)) != 0 || x.Context(0) != 0 {
		t.Error(x.Len(), x.Box(0), x.Parent(0), x.End(0), x.Children(0), x.Context(0))
	}
	if contexts := x.Contexts(); !slices.Equal(contexts, []int{0}) {
		t.Error(contexts)
	}
}

// P6.2, P6.3: a tree whose answers are written out, box by box.
func TestAnswers(t *testing.T) {
	x := built(t, listed(
		0, api.Root,
		1, api.Text, 2, api.Atom, 2, api.Float, 3, api.Block, 4, api.Float, 5, api.Text, 2, api.Atom,
		1, api.Block, 2, api.Root, 2, api.Block, 3, api.Text,
		1, api.Float,
	))
	for i, want := range []struct {
		parent, end, context int
		children             []int
	}{
		{-1, 13, 0, []int{1, 8, 12}},
		{0, 8, 0, []int{2, 3, 7}},
		{1, 3, 0, nil},
		{1, 7, 0, []int{4}},
		{3, 7, 3, []int{5}},
		{4, 7, 3, []int{6}},
		{5, 7, 5, nil},
		{1, 8, 0, nil},
		{0, 12, 0, []int{9, 10}},
		{8, 10, 0, nil},
		{8, 12, 0, []int{11}},
		{10, 12, 0, nil},
		{0, 13, 0, nil},
	} {
		if x.Parent(i) != want.parent || x.End(i) != want.end || x.Context(i) != want.context || !slices.Equal(x.Children(i), want.children) {
			t.Error(i, x.Parent(i), x.End(i), x.Context(i), x.Children(i))
		}
	}
	if contexts := x.Contexts(); !slices.Equal(contexts, []int{12, 9, 5, 3, 0}) {
		t.Error(contexts)
	}
}

// P6.1, P6.2, P6.3: several trees, each held against the chapter's words.
func TestSeveralTrees(t *testing.T) {
	for _, l := range several() {
		holds(t, built(t, l), l)
	}
}

// P6.3: Contexts falls, ends with the first box, and has each Float and Root ahead of all in which it stands.
func TestContextsFall(t *testing.T) {
	for _, l := range several() {
		x := built(t, l)
		contexts := x.Contexts()
		if contexts[len(contexts)-1] != 0 {
			t.Error(contexts)
		}
		for n, at := range contexts {
			if n > 0 && at >= contexts[n-1] {
				t.Error(contexts)
			}
			if at > 0 && !slices.Contains(contexts[n+1:], x.Context(at)) {
				t.Error(at, x.Context(at), contexts)
			}
		}
	}
}

// P6.2: of places that the tree hasn't.
func TestOtherPlaces(t *testing.T) {
	for _, l := range several() {
		x := built(t, l)
		for _, i := range []int{-1, len(l), -2, len(l) + 1, most, math.MinInt, math.MinInt + 1, math.MaxInt - 1, math.MaxInt} {
			if i >= 0 && i < len(l) {
				continue
			}
			if x.Box(i) != (api.Box{}) || x.Parent(i) != -1 || x.End(i) != -1 || len(x.Children(i)) != 0 || x.Context(i) != -1 {
				t.Error(len(l), i, x.Box(i), x.Parent(i), x.End(i), x.Children(i), x.Context(i))
			}
		}
	}
}

// P6.2: boxes each in the one ahead, as deep as may be.
func TestDeepest(t *testing.T) {
	l := append(chain(deepest-2, api.Block), box(deepest-1, api.Text), box(deepest, api.Atom), box(1, api.Root), box(2, api.Block))
	l[100] = box(100, api.Float)
	x := built(t, l)
	holds(t, x, l)
	if x.End(0) != deepest+3 || x.End(1) != deepest+1 || x.Parent(deepest) != deepest-1 || x.Context(deepest) != 100 || x.Parent(deepest+1) != 0 {
		t.Error(x.End(0), x.End(1), x.Parent(deepest), x.Context(deepest), x.Parent(deepest+1))
	}
}

// P6.2, P6.3: as many boxes as may be, all in one, and up and down, as deep as may be.
func TestMost(t *testing.T) {
	x := built(t, flat(most))
	children := x.Children(0)
	if x.Len() != most || x.End(0) != most || len(children) != most-1 || x.Parent(most-1) != 0 || x.End(most-1) != most {
		t.Error(x.Len(), x.End(0), len(children), x.Parent(most-1), x.End(most-1))
	}
	for n, child := range children {
		if child != n+1 {
			t.Fatal(n, child)
		}
	}
	l := chain(deepest, api.Float)
	for len(l)+deepest <= most {
		l = append(l, chain(deepest, api.Float)[1:]...)
	}
	x = built(t, l)
	for i := 1; i < len(l); i++ {
		parent, end := i-1, (i-1)/deepest*deepest+deepest+1
		if i%deepest == 1 {
			parent = 0
		}
		if x.Parent(i) != parent || x.Context(i) != parent || x.End(i) != end {
			t.Fatal(i, x.Parent(i), x.Context(i), x.End(i))
		}
	}
	if contexts := x.Contexts(); len(contexts) != len(l) || contexts[0] != len(l)-1 || contexts[len(l)-1] != 0 {
		t.Error(len(contexts))
	}
}

// K5: Build changes no list, nor what lies behind it in the same memory, whether it answers a tree or not.
func TestHandedInIsNotChanged(t *testing.T) {
	for _, wrong := range []bool{false, true} {
		for length := range 31 {
			l := grown(9, 30, true)
			if wrong {
				l[20].Kind = 7
			}
			kept := slices.Clone(l)
			tree.Build(l[:length])
			if !slices.Equal(l, kept) {
				t.Fatal(wrong, length, l)
			}
		}
	}
}

// K5: a list that is changed behind Build changes no tree.
func TestHandedInIsNotKept(t *testing.T) {
	for _, l := range several() {
		kept := slices.Clone(l)
		x := built(t, l)
		for i := range l {
			l[i] = api.Box{Depth: 3, Kind: api.Float, Margins: [4]int{1, 2, 3, 4}}
		}
		holds(t, x, kept)
		clear(l)
		holds(t, x, kept)
	}
}

// K5, K6: an answer that is changed, or made longer, changes no later one.
func TestAnswersAreNew(t *testing.T) {
	for _, l := range several() {
		x := built(t, l)
		for range 2 {
			for i := range l {
				b := x.Box(i)
				b.Margins[0], b.Edges[3], b.Kind = 9, 9, 9
				children := x.Children(i)
				clear(append(children, 7))
				clear(children)
			}
			contexts := x.Contexts()
			clear(append(contexts, 7))
			for n := range contexts {
				contexts[n] = -8
			}
			holds(t, x, l)
		}
	}
}

// K5, P6.2: the lists of two boxes share nothing, so that one made longer doesn't reach into the other.
func TestAnswersAreApart(t *testing.T) {
	l := listed(0, api.Root, 1, api.Block, 2, api.Block, 2, api.Block, 1, api.Block, 2, api.Block)
	x := built(t, l)
	var answers [][]int
	for i := range l {
		answers = append(answers, x.Children(i))
	}
	for _, answer := range answers {
		clear(append(answer[:0], make([]int, cap(answer))...))
	}
	holds(t, x, l)
	first, second := x.Children(1), x.Children(4)
	clear(append(first, 9, 9, 9, 9)[:2])
	if !slices.Equal(second, []int{5}) {
		t.Error(second)
	}
}

// K6: trees stand apart; neither another tree, nor a list that may be none, changes one.
func TestTreesStandApart(t *testing.T) {
	all := several()
	var trees []*tree.Tree
	for _, l := range all {
		trees = append(trees, built(t, l))
		tree.Build(append(slices.Clone(l), box(0, api.Block)))
	}
	for i, l := range all {
		holds(t, trees[i], l)
		holds(t, built(t, l), l)
	}
}

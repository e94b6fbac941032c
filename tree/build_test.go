package tree_test

import (
	"math"
	"slices"
	"testing"

	"runaround/api"
	"runaround/record"
	"runaround/tree"
)

// faultOf looks for the first box of which something is wrong, by the chapter's words.
func faultOf(l []api.Box) (int, api.Errno) {
	for i, b := range l {
		if i == most {
			return i, api.ErrMany
		}
		if e := record.Check(b); e != api.OK {
			return i, e
		}
		if i == 0 {
			if b.Kind != api.Root || b.Depth != 0 || b.Width < 0 || b.Margins != [4]int{} || b.Clear != api.None {
				return i, api.ErrNest
			}
			continue
		}
		if b.Depth == 0 || b.Depth > l[i-1].Depth+1 {
			return i, api.ErrNest
		}
		if !slices.Contains(within(l[parentOf(l, i)].Kind), b.Kind) {
			return i, api.ErrNest
		}
	}
	return -1, api.OK
}

// refused tells whether Build answers this place and this error of a list, and no tree, and tells it if not.
func refused(t *testing.T, l []api.Box, at int, want api.Errno) {
	t.Helper()
	x, place, e := tree.Build(l)
	if x != nil || place != at || e != want {
		t.Error(len(l), x != nil, place, e, "not", at, want)
	}
}

// fault is a way to make a box wrong, and the error that tells it.
type fault struct {
	says api.Errno
	do   func(b *api.Box)
}

// faults has a way for each thing that Check finds wrong with any box, and with an Atom alone.
func faults(kind int) []fault {
	all := []fault{
		{api.ErrKind, func(b *api.Box) { b.Kind = 6 }},
		{api.ErrKind, func(b *api.Box) { b.Kind = 0 }},
		{api.ErrBig, func(b *api.Box) { b.Width = api.MaxSize + 1 }},
		{api.ErrBig, func(b *api.Box) { b.Margins[3] = -api.MaxSize - 1 }},
		{api.ErrSide, func(b *api.Box) { b.Side = api.Both }},
		{api.ErrClear, func(b *api.Box) { b.Clear = 4 }},
		{api.ErrSize, func(b *api.Box) { b.Height = -2 }},
		{api.ErrSize, func(b *api.Box) { b.Width = -2 }},
		{api.ErrEdge, func(b *api.Box) { b.Edges[2] = -1 }},
		{api.ErrDepth, func(b *api.Box) { b.Depth = -1 }},
		{api.ErrDepth, func(b *api.Box) { b.Depth = deepest + 1 }},
		{api.ErrDepth, func(b *api.Box) { b.Depth = math.MaxInt }},
	}
	if kind == api.Atom {
		all = append(all, fault{api.ErrMargin, func(b *api.Box) { b.Margins[1] = 1 }})
	}
	return all
}

// misfits has ways to make a box, by itself sound, one that can't stand at a place.
func misfits(l []api.Box, at int) []fault {
	if at == 0 {
		return []fault{
			{api.ErrNest, func(b *api.Box) { *b = box(0, api.Block) }},
			{api.ErrNest, func(b *api.Box) { b.Depth = 1 }},
			{api.ErrNest, func(b *api.Box) { b.Clear = api.Right }},
		}
	}
	all := []fault{{api.ErrNest, func(b *api.Box) { b.Depth = 0 }}}
	if l[at-1].Depth+2 <= deepest {
		all = append(all, fault{api.ErrNest, func(b *api.Box) { b.Depth = l[at-1].Depth + 2 }})
	}
	for kind := api.Block; kind <= api.Atom; kind++ {
		if !slices.Contains(within(l[parentOf(l, at)].Kind), kind) {
			all = append(all, fault{api.ErrNest, func(b *api.Box) { *b = box(b.Depth, kind) }})
		}
	}
	return all
}

// few gives lists that are short, to be made wrong at each place.
func few() [][]api.Box {
	return [][]api.Box{
		listed(0, api.Root),
		listed(0, api.Root, 1, api.Text, 2, api.Atom, 2, api.Float, 3, api.Block, 2, api.Atom, 1, api.Root, 2, api.Block),
		grown(3, 12, false),
		grown(4, 25, true),
	}
}

// P6.1, K1, K3: no boxes.
func TestNoBoxes(t *testing.T) {
	refused(t, nil, -1, api.ErrNone)
	refused(t, []api.Box{}, -1, api.ErrNone)
	refused(t, flat(5)[:0], -1, api.ErrNone)
}

// P6.1: each thing that the first box may not have, with boxes behind it and without.
func TestFirstBox(t *testing.T) {
	wrong := []func(b *api.Box){
		func(b *api.Box) { b.Kind = api.Block },
		func(b *api.Box) { *b = box(0, api.Float) },
		func(b *api.Box) { b.Kind = api.Text },
		func(b *api.Box) { b.Kind = api.Atom },
		func(b *api.Box) { b.Depth = 1 },
		func(b *api.Box) { b.Depth = 2 },
		func(b *api.Box) { b.Depth = deepest },
		func(b *api.Box) { b.Width = api.Auto },
		func(b *api.Box) { b.Clear = api.Left },
		func(b *api.Box) { b.Clear = api.Right },
		func(b *api.Box) { b.Clear = api.Both },
		func(b *api.Box) { b.Margins = [4]int{5, -5, 5, -5} },
	}
	for side := range 4 {
		for _, n := range []int{-api.MaxSize, -1, 1, api.MaxSize} {
			wrong = append(wrong, func(b *api.Box) { b.Margins[side] = n })
		}
	}
	for _, do := range wrong {
		for _, behind := range [][]api.Box{nil, listed(1, api.Block, 2, api.Block), listed(0, api.Root, 1, api.Text)} {
			l := append([]api.Box{box(0, api.Root)}, behind...)
			do(&l[0])
			refused(t, l, 0, api.ErrNest)
		}
	}
}

// P6.1: what the first box may have, and a Root that isn't the first one, too.
func TestRootsThatMayBe(t *testing.T) {
	for _, b := range []api.Box{
		{Kind: api.Root},
		{Kind: api.Root, Width: 1, Height: api.Auto},
		{Kind: api.Root, Width: api.MaxSize, Height: api.MaxSize},
		{Kind: api.Root, Width: 3, Edges: [4]int{1, 2, 3, 4}},
	} {
		holds(t, built(t, []api.Box{b}), []api.Box{b})
	}
	for _, b := range []api.Box{
		{Depth: 1, Kind: api.Root, Width: api.Auto},
		{Depth: 1, Kind: api.Root, Clear: api.Both},
		{Depth: 1, Kind: api.Root, Margins: [4]int{-1, 2, -3, 4}},
	} {
		l := []api.Box{box(0, api.Root), b}
		holds(t, built(t, l), l)
	}
}

// P6.1: each thing that Check finds, at each place.
func TestEachErrorOfCheck(t *testing.T) {
	for _, l := range few() {
		for at := range l {
			for _, f := range faults(l[at].Kind) {
				x := slices.Clone(l)
				f.do(&x[at])
				refused(t, x, at, f.says)
			}
		}
	}
}

// P6.1, K2: what Check finds is told, also of a box that can't stand there.
func TestCheckIsToldAheadOfNesting(t *testing.T) {
	for _, l := range few() {
		for at := range l {
			for _, g := range misfits(l, at) {
				misfit := l[at]
				g.do(&misfit)
				for _, f := range faults(misfit.Kind) {
					x := slices.Clone(l)
					x[at] = misfit
					f.do(&x[at])
					refused(t, x, at, f.says)
				}
			}
		}
	}
}

// P6.1: each way in which a box can't stand at a place, at each place.
func TestEachMisfit(t *testing.T) {
	for _, l := range few() {
		for at := range l {
			for _, f := range misfits(l, at) {
				x := slices.Clone(l)
				f.do(&x[at])
				refused(t, x, at, api.ErrNest)
			}
		}
	}
}

// P6.1, K2: of two boxes that are wrong the first one is told, whatever is wrong with either.
func TestFirstWrongBoxIsTold(t *testing.T) {
	for _, l := range few() {
		for at := range l {
			for behind := at + 1; behind < len(l); behind++ {
				for _, f := range append(faults(l[at].Kind), misfits(l, at)...) {
					for _, g := range append(faults(l[behind].Kind), misfits(l, behind)...) {
						x := slices.Clone(l)
						f.do(&x[at])
						g.do(&x[behind])
						refused(t, x, at, f.says)
					}
				}
			}
		}
	}
}

// P6.1: any Depth behind boxes that go down to another one.
func TestDepths(t *testing.T) {
	for _, last := range []int{0, 1, 2, 3, 100, deepest - 1, deepest} {
		l := chain(last, api.Block)
		for next := -2; next <= deepest+2; next++ {
			x := append(slices.Clone(l), box(next, api.Block))
			switch {
			case next < 0 || next > deepest:
				refused(t, x, len(l), api.ErrDepth)
			case next == 0 || next > last+1:
				refused(t, x, len(l), api.ErrNest)
			default:
				if parent := built(t, x).Parent(len(l)); parent != next-1 {
					t.Error(last, next, parent)
				}
			}
		}
	}
}

// P6.1: a Depth is held against that of the box ahead, not against that of a deeper one further ahead.
func TestDepthOfBoxAhead(t *testing.T) {
	l := listed(0, api.Root, 1, api.Block, 2, api.Block, 3, api.Block, 1, api.Block)
	refused(t, append(l, box(3, api.Block)), 5, api.ErrNest)
	refused(t, append(l, box(4, api.Block)), 5, api.ErrNest)
	if x := built(t, append(l, box(2, api.Block))); x.Parent(5) != 4 {
		t.Error(x.Parent(5))
	}
}

// P6.1: each kind in each kind, as the first one that stands there, and behind another one.
func TestEachKindInEachKind(t *testing.T) {
	for kind := api.Block; kind <= api.Atom; kind++ {
		l, depth := []api.Box{box(0, api.Root)}, 1
		if kind == api.Atom {
			l, depth = append(l, box(1, api.Text)), 2
		}
		l = append(l, box(depth, kind))
		for child := api.Block; child <= api.Atom; child++ {
			for _, first := range [][]api.Box{nil, {box(depth+1, api.Float)}, {box(depth+1, api.Float), box(depth+2, api.Text), box(depth+3, api.Atom)}} {
				if kind == api.Atom && first != nil {
					continue
				}
				x := slices.Concat(l, first, []api.Box{box(depth+1, child)})
				if !slices.Contains(within(kind), child) {
					refused(t, x, len(x)-1, api.ErrNest)
				} else if parent := built(t, x).Parent(len(x) - 1); parent != len(l)-1 {
					t.Error(kind, child, parent)
				}
			}
		}
	}
}

// P6.1: each kind in the first box.
func TestEachKindInFirst(t *testing.T) {
	for kind := api.Block; kind < api.Atom; kind++ {
		l := []api.Box{box(0, api.Root), box(1, kind)}
		holds(t, built(t, l), l)
	}
	refused(t, []api.Box{box(0, api.Root), box(1, api.Atom)}, 1, api.ErrNest)
}

// P6.1, P6.2: all lists of a Root and up to three boxes, of all kinds and of depths from 0 to 4.
func TestAllShortLists(t *testing.T) {
	lists := [][]api.Box{{box(0, api.Root)}}
	for i := 0; i < len(lists); i++ {
		l := lists[i]
		if at, want := faultOf(l); want != api.OK {
			refused(t, l, at, want)
		} else {
			holds(t, built(t, l), l)
		}
		for n := range 25 {
			if len(l) < 4 {
				lists = append(lists, append(slices.Clone(l), box(n/5, 1+n%5)))
			}
		}
	}
	if len(lists) != 1+25+25*25+25*25*25 {
		t.Error(len(lists))
	}
}

// P6.1: one box more than may be, and many more; it is the 65537th one that is told, whatever it is.
func TestMany(t *testing.T) {
	l := flat(most)
	if x := built(t, l); x.Len() != most {
		t.Error(x.Len())
	}
	refused(t, append(l, flat(1000)[1:]...), most, api.ErrMany)
	for _, b := range []api.Box{box(1, api.Block), box(0, api.Block), box(3, api.Block), box(1, api.Atom), {}} {
		refused(t, append(l, b), most, api.ErrMany)
		refused(t, append(l, b, b), most, api.ErrMany)
	}
	for _, f := range faults(api.Block) {
		b := box(1, api.Block)
		f.do(&b)
		refused(t, append(l, b), most, api.ErrMany)
		refused(t, append(l, box(1, api.Block), b), most, api.ErrMany)
	}
}

// P6.1: what is wrong ahead of the 65537th box is told ahead of it.
func TestWrongAheadOfMany(t *testing.T) {
	for _, at := range []int{0, 1, most / 2, most - 2, most - 1} {
		l := flat(most + 1)
		l[at].Width = -2
		refused(t, l, at, api.ErrSize)
		refused(t, l[:most], at, api.ErrSize)
		l = flat(most + 1)
		l[at] = box(0, api.Block)
		refused(t, l, at, api.ErrNest)
	}
}

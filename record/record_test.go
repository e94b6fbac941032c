package record_test

import (
	"math"
	"slices"
	"testing"

	"runaround/api"
	"runaround/record"
)

// far is the greatest number that Across and Down promise; -far is the least one.
const far = 1 << 60

// kinds has all kinds that there are.
var kinds = []int{api.Block, api.Float, api.Root, api.Text, api.Atom}

// strange has numbers that are no kind.
var strange = []int{0, 6, 7, -1, -5, api.MaxSize, -api.MaxSize, far, math.MaxInt, math.MinInt}

// order has the errors as the chapter names them.
var order = []api.Errno{api.ErrKind, api.ErrBig, api.ErrSide, api.ErrClear, api.ErrSize, api.ErrMargin, api.ErrEdge, api.ErrDepth}

// edges has both sides of each bound that the chapter names, and both ends of an int.
var edges = []int{
	math.MinInt, math.MinInt + 1, -far, -api.MaxSize - 1, -api.MaxSize, 1 - api.MaxSize, -257, -256, -255, -3, -2, -1, 0, 1, 2, 3, 4, 5, 6,
	255, 256, 257, api.MaxSize - 1, api.MaxSize, api.MaxSize + 1, far, math.MaxInt - 1, math.MaxInt,
}

// sound gives a box of a kind that nothing is wrong with.
func sound(kind int) api.Box {
	if kind == api.Float {
		return api.Box{Kind: kind, Side: api.Left}
	}
	return api.Box{Kind: kind}
}

// field is one number of a box: how it is set, and what is told of a sound box where it alone is n.
type field struct {
	name string
	set  func(b *api.Box, n int)
	told func(kind, n int) api.Errno
}

// fields has all numbers of a box but its Kind.
func fields() []field {
	all := []field{
		{"Depth", func(b *api.Box, n int) { b.Depth = n }, toldOfDepth},
		{"Side", func(b *api.Box, n int) { b.Side = n }, toldOfSide},
		{"Clear", func(b *api.Box, n int) { b.Clear = n }, toldOfClear},
		{"Width", func(b *api.Box, n int) { b.Width = n }, toldOfWidth},
		{"Height", func(b *api.Box, n int) { b.Height = n }, toldOfHeight},
	}
	for i, name := range []string{"top", "right", "bottom", "left"} {
		all = append(all,
			field{name + " margin", func(b *api.Box, n int) { b.Margins[i] = n }, toldOfMargin},
			field{name + " edge", func(b *api.Box, n int) { b.Edges[i] = n }, toldOfEdge})
	}
	return all
}

func toldOfDepth(_, n int) api.Errno {
	if n >= 0 && n <= 256 {
		return api.OK
	}
	return api.ErrDepth
}

func toldOfSide(kind, n int) api.Errno {
	if kind == api.Float && (n == 1 || n == 2) || kind != api.Float && n == 0 {
		return api.OK
	}
	return api.ErrSide
}

func toldOfClear(kind, n int) api.Errno {
	if n == 0 || kind != api.Atom && (n == 1 || n == 2 || n == 3) {
		return api.OK
	}
	return api.ErrClear
}

func toldOfWidth(kind, n int) api.Errno {
	if n < -268435456 || n > 268435456 {
		return api.ErrBig
	}
	if n >= 0 || n == -1 && (kind == api.Block || kind == api.Root || kind == api.Text) {
		return api.OK
	}
	return api.ErrSize
}

func toldOfHeight(kind, n int) api.Errno {
	if n < -268435456 || n > 268435456 {
		return api.ErrBig
	}
	if n >= 0 || n == -1 && kind != api.Atom {
		return api.OK
	}
	return api.ErrSize
}

func toldOfMargin(kind, n int) api.Errno {
	if n < -268435456 || n > 268435456 {
		return api.ErrBig
	}
	if n == 0 || kind != api.Atom {
		return api.OK
	}
	return api.ErrMargin
}

func toldOfEdge(kind, n int) api.Errno {
	if n < -268435456 || n > 268435456 {
		return api.ErrBig
	}
	if n == 0 || n > 0 && kind != api.Atom {
		return api.OK
	}
	return api.ErrEdge
}

// earlier gives that one of two errors that is told where both hold.
func earlier(a, b api.Errno) api.Errno {
	for _, e := range order {
		if a == e || b == e {
			return e
		}
	}
	return api.OK
}

// P4.1: example 1.
func TestExample(t *testing.T) {
	if e := record.Check(api.Box{Kind: api.Float}); e != api.ErrSide {
		t.Error(e)
	}
}

// P4.1: boxes that nothing is wrong with, whose numbers all lie at a bound.
func TestSoundBoxes(t *testing.T) {
	const size = api.MaxSize
	margins := [4]int{-size, size, -size, size}
	for i, b := range []api.Box{
		{Kind: api.Block},
		{Kind: api.Float, Side: api.Left},
		{Kind: api.Float, Side: api.Right},
		{Kind: api.Root},
		{Kind: api.Text},
		{Kind: api.Atom},
		{Depth: 256, Kind: api.Block, Clear: api.Both, Width: api.Auto, Height: api.Auto, Margins: margins, Edges: [4]int{size, size, size, size}},
		{Depth: 256, Kind: api.Float, Side: api.Right, Clear: api.Both, Height: api.Auto, Margins: margins, Edges: [4]int{0, size, 1, size}},
		{Depth: 1, Kind: api.Float, Side: api.Left, Clear: api.Right, Width: size, Height: size, Margins: margins},
		{Depth: 256, Kind: api.Root, Clear: api.Left, Width: api.Auto, Height: api.Auto, Margins: margins, Edges: [4]int{size, 0, size, 0}},
		{Depth: 255, Kind: api.Text, Clear: api.Right, Width: api.Auto, Height: api.Auto, Margins: margins, Edges: [4]int{1, 2, 3, 4}},
		{Depth: 256, Kind: api.Atom, Width: size, Height: size},
	} {
		if e := record.Check(b); e != api.OK {
			t.Error(i, e)
		}
	}
}

// P4.1: each kind that there is, and numbers that are none, of boxes where nothing else is wrong, and where all is.
func TestKind(t *testing.T) {
	for _, kind := range kinds {
		if e := record.Check(sound(kind)); e != api.OK {
			t.Error(kind, e)
		}
	}
	const big = api.MaxSize + 1
	worst := api.Box{Depth: -1, Side: 4, Clear: 4, Width: big, Height: -big, Margins: [4]int{big}, Edges: [4]int{-big}}
	for _, kind := range strange {
		worst.Kind = kind
		if e := record.Check(sound(kind)); e != api.ErrKind {
			t.Error(kind, e)
		}
		if e := record.Check(api.Box{Kind: kind, Side: api.Left}); e != api.ErrKind {
			t.Error(kind, e)
		}
		if e := record.Check(worst); e != api.ErrKind {
			t.Error(kind, e)
		}
	}
}

// P4.1: each error by itself, of each kind that it can befall.
func TestEachErrorAlone(t *testing.T) {
	const big = api.MaxSize + 1
	for i, x := range []struct {
		b    api.Box
		want api.Errno
	}{
		{api.Box{Kind: 0}, api.ErrKind},
		{api.Box{Kind: 6}, api.ErrKind},
		{api.Box{Kind: api.Block, Width: big}, api.ErrBig},
		{api.Box{Kind: api.Block, Width: -big}, api.ErrBig},
		{api.Box{Kind: api.Text, Height: big}, api.ErrBig},
		{api.Box{Kind: api.Text, Height: -big}, api.ErrBig},
		{api.Box{Kind: api.Atom, Margins: [4]int{0, big, 0, 0}}, api.ErrBig},
		{api.Box{Kind: api.Root, Margins: [4]int{0, 0, -big, 0}}, api.ErrBig},
		{api.Box{Kind: api.Root, Edges: [4]int{0, 0, 0, big}}, api.ErrBig},
		{api.Box{Kind: api.Atom, Edges: [4]int{-big, 0, 0, 0}}, api.ErrBig},
		{api.Box{Kind: api.Float, Side: api.None}, api.ErrSide},
		{api.Box{Kind: api.Float, Side: api.Both}, api.ErrSide},
		{api.Box{Kind: api.Float, Side: -1}, api.ErrSide},
		{api.Box{Kind: api.Block, Side: api.Left}, api.ErrSide},
		{api.Box{Kind: api.Root, Side: api.Right}, api.ErrSide},
		{api.Box{Kind: api.Text, Side: api.Both}, api.ErrSide},
		{api.Box{Kind: api.Atom, Side: api.Left}, api.ErrSide},
		{api.Box{Kind: api.Block, Clear: 4}, api.ErrClear},
		{api.Box{Kind: api.Float, Side: api.Left, Clear: -1}, api.ErrClear},
		{api.Box{Kind: api.Atom, Clear: api.Both}, api.ErrClear},
		{api.Box{Kind: api.Block, Width: -2}, api.ErrSize},
		{api.Box{Kind: api.Root, Height: -2}, api.ErrSize},
		{api.Box{Kind: api.Float, Side: api.Right, Width: api.Auto}, api.ErrSize},
		{api.Box{Kind: api.Atom, Width: api.Auto}, api.ErrSize},
		{api.Box{Kind: api.Atom, Height: api.Auto}, api.ErrSize},
		{api.Box{Kind: api.Atom, Margins: [4]int{0, 0, 0, -1}}, api.ErrMargin},
		{api.Box{Kind: api.Atom, Margins: [4]int{1, -1, 0, 0}}, api.ErrMargin},
		{api.Box{Kind: api.Block, Edges: [4]int{3, 0, -1, 3}}, api.ErrEdge},
		{api.Box{Kind: api.Float, Side: api.Left, Edges: [4]int{-1, 0, 0, 0}}, api.ErrEdge},
		{api.Box{Kind: api.Atom, Edges: [4]int{0, 0, 0, 1}}, api.ErrEdge},
		{api.Box{Kind: api.Atom, Edges: [4]int{-1, 1, 0, 0}}, api.ErrEdge},
		{api.Box{Kind: api.Block, Depth: -1}, api.ErrDepth},
		{api.Box{Kind: api.Atom, Depth: 257}, api.ErrDepth},
	} {
		if e := record.Check(x.b); e != x.want {
			t.Error(i, e, x.want)
		}
	}
}

// fault is a way to make a box wrong, and the error that tells it.
type fault struct {
	says api.Errno
	do   func(b *api.Box)
}

// faults has a fault for each error that can befall a box of a kind, as the chapter names them.
func faults(kind int) []fault {
	all := []fault{
		{api.ErrKind, func(b *api.Box) { b.Kind = 6 }},
		{api.ErrBig, func(b *api.Box) { b.Height = -api.MaxSize - 1 }},
		{api.ErrSide, func(b *api.Box) { b.Side = 3 }},
		{api.ErrClear, func(b *api.Box) { b.Clear = 4 }},
		{api.ErrSize, func(b *api.Box) { b.Width = -2 }},
		{api.ErrMargin, func(b *api.Box) { b.Margins[2] = -7 }},
		{api.ErrEdge, func(b *api.Box) { b.Edges[3] = -1 }},
		{api.ErrDepth, func(b *api.Box) { b.Depth = 257 }},
	}
	if kind == api.Atom {
		return all
	}
	return slices.DeleteFunc(all, func(f fault) bool { return f.says == api.ErrMargin })
}

// P4.1, K2: any faults at once, so each against all that come behind it: the first that the chapter names is told.
func TestFirstErrorIsTold(t *testing.T) {
	for _, kind := range kinds {
		all := faults(kind)
		for set := range 1 << len(all) {
			b, want := sound(kind), api.OK
			for i, f := range slices.Backward(all) {
				if set>>i&1 == 1 {
					f.do(&b)
					want = f.says
				}
			}
			if e := record.Check(b); e != want {
				t.Error(kind, set, b, e, want)
			}
		}
	}
}

// P4.1: each number of a box at both sides of each bound, of each kind and of none, the rest being sound.
func TestEachNumber(t *testing.T) {
	for _, f := range fields() {
		for _, n := range edges {
			for _, kind := range kinds {
				b := sound(kind)
				f.set(&b, n)
				if e := record.Check(b); e != f.told(kind, n) {
					t.Error(f.name, kind, n, e, f.told(kind, n))
				}
			}
			for _, kind := range strange {
				b := sound(kind)
				f.set(&b, n)
				if e := record.Check(b); e != api.ErrKind {
					t.Error(f.name, kind, n, e)
				}
			}
		}
	}
}

// P4.1, K2: each two numbers of a box at once, at both sides of each bound.
func TestEachTwoNumbers(t *testing.T) {
	all := fields()
	for i, f := range all {
		for _, g := range all[i+1:] {
			for _, kind := range kinds {
				for _, m := range edges {
					for _, n := range edges {
						b := sound(kind)
						f.set(&b, m)
						g.set(&b, n)
						if e := record.Check(b); e != earlier(f.told(kind, m), g.told(kind, n)) {
							t.Fatal(f.name, g.name, kind, m, n, e)
						}
					}
				}
			}
		}
	}
}

// P4.1: numbers that undo each other when they are added are wrong all the same.
func TestNumbersAreNotAdded(t *testing.T) {
	for _, x := range []struct {
		b    api.Box
		want api.Errno
	}{
		{api.Box{Kind: api.Atom, Margins: [4]int{5, -5, 5, -5}}, api.ErrMargin},
		{api.Box{Kind: api.Atom, Edges: [4]int{2, -2, 0, 0}}, api.ErrEdge},
		{api.Box{Kind: api.Block, Edges: [4]int{2, -2, 9, 9}}, api.ErrEdge},
		{api.Box{Kind: api.Block, Margins: [4]int{math.MaxInt, math.MinInt, 1, 0}}, api.ErrBig},
		{api.Box{Kind: api.Block, Width: math.MinInt, Height: math.MinInt}, api.ErrBig},
	} {
		if e := record.Check(x.b); e != x.want {
			t.Error(x.b, e, x.want)
		}
	}
}

// P4.2: Open of each kind, and of numbers that are none.
func TestOpen(t *testing.T) {
	for _, kind := range slices.Concat(kinds, strange) {
		if want := kind == 2 || kind == 3; record.Open(kind) != want {
			t.Error(kind, want)
		}
	}
}

// P4.2: Fits of all pairs of kinds, and of numbers that are none.
func TestFits(t *testing.T) {
	within := map[int][]int{
		api.Block: {api.Block, api.Float, api.Root, api.Text},
		api.Float: {api.Block, api.Float, api.Root, api.Text},
		api.Root:  {api.Block, api.Float, api.Root, api.Text},
		api.Text:  {api.Float, api.Atom},
	}
	for _, parent := range slices.Concat(kinds, strange) {
		for _, child := range slices.Concat(kinds, strange) {
			if want := slices.Contains(within[parent], child); record.Fits(parent, child) != want {
				t.Error(parent, child, want)
			}
		}
	}
}

// P4.2: Across and Down of four different margins and edges, below 0 too, and at both ends of what is allowed.
func TestAcrossAndDown(t *testing.T) {
	for _, x := range []struct {
		margins, edges [4]int
		across, down   int
	}{
		{[4]int{}, [4]int{}, 0, 0},
		{[4]int{1, 2, 4, 8}, [4]int{16, 32, 64, 128}, 2 + 8 + 32 + 128, 16 + 64},
		{[4]int{-1, -2, -4, -8}, [4]int{-16, -32, -64, -128}, -2 - 8 - 32 - 128, -16 - 64},
		{[4]int{-1, 2, -4, -8}, [4]int{16, -32, -64, 128}, 2 - 8 - 32 + 128, 16 - 64},
		{[4]int{0, 7, 0, -7}, [4]int{5, 0, 3, 0}, 0, 8},
		{[4]int{far, far, far, far}, [4]int{far, far, far, far}, 4 * far, 2 * far},
		{[4]int{-far, -far, -far, -far}, [4]int{-far, -far, -far, -far}, -4 * far, -2 * far},
		{[4]int{0, far, 0, -far}, [4]int{-far, -far, far, far}, 0, 0},
		{[4]int{3, 1 - far, 5, -far}, [4]int{far, -far, far - 1, 2 - far}, 3 - 4*far, 2*far - 1},
	} {
		b := api.Box{Margins: x.margins, Edges: x.edges}
		for _, other := range []int{0, 1, -far, far} {
			b.Depth, b.Kind, b.Side, b.Clear, b.Width, b.Height = other, other, other, other, other, other
			if record.Across(b) != x.across || record.Down(b) != x.down {
				t.Error(b, record.Across(b), record.Down(b), x.across, x.down)
			}
		}
	}
}

// P4.2: each margin and each edge counts by itself where it should, and nowhere else.
func TestAcrossAndDownByPlace(t *testing.T) {
	for place := range 4 {
		sideways := place%2 == 1
		for _, n := range []int{-far, -3, 1, 9, far} {
			margin, edge := api.Box{Kind: api.Block}, api.Box{Kind: api.Float}
			margin.Margins[place], edge.Edges[place] = n, n
			across, down := 0, n
			if sideways {
				across, down = n, 0
			}
			if record.Across(margin) != across || record.Down(margin) != 0 {
				t.Error(place, n, record.Across(margin), record.Down(margin))
			}
			if record.Across(edge) != across || record.Down(edge) != down {
				t.Error(place, n, record.Across(edge), record.Down(edge))
			}
		}
	}
}

package flow_test

import (
	"testing"

	"runaround/api"
	"runaround/flow"
)

// stands tells it if a box of the first one's context isn't where it's told to be, and how high that context is: of
// trees that are too large to be told whole.
func stands(t *testing.T, l []api.Box, height int, where func(at int) api.Rect) flow.Output {
	t.Helper()
	in := asked(t, l)
	got := flow.Lay(in, 0)
	if len(got.Boxes) != len(l)-1 || got.Height != height {
		t.Fatalf("%d boxes, %d high; not %d, %d high", len(got.Boxes), got.Height, len(l)-1, height)
	}
	for i, p := range got.Boxes {
		if p.At != i+1 || p.Box != where(p.At) {
			t.Fatalf("%v, not %d, %v", p, i+1, where(i+1))
		}
	}
	if again := flow.Lay(in, 0); !same(got, again) {
		t.Fatal("another answer, asked again")
	}
	return got
}

// deep gives boxes one in the other, as deep as may be, the last but one a Text, and the last one an Atom.
func deep(made func(depth int) api.Box) []api.Box {
	l := page()
	for depth := 1; depth < api.MaxDepth-1; depth++ {
		l = append(l, made(depth))
	}
	return append(l, text(api.MaxDepth-1, 0, 0), atom(api.MaxDepth, 4, 3))
}

// Margins above and below collapse through all boxes, however deep.
func TestDeepMargins(t *testing.T) {
	l := deep(func(depth int) api.Box { return block(depth, depth%7, -depth%5) })
	got := stands(t, l, 5, func(at int) api.Rect {
		if at == api.MaxDepth {
			return box(0, 6, 4, 9)
		}
		return rows(6, 9)
	})
	if len(got.Lines) != 1 || got.Lines[0] != lineOf(api.MaxDepth-1, rows(6, 9), 1, 4) {
		t.Error(got.Lines)
	}
}

// Edges keep them apart, however deep.
func TestDeepEdges(t *testing.T) {
	n := api.MaxDepth - 2 // Blocks
	l := deep(func(depth int) api.Box { return edged(1, 2, block(depth, 3, 4)) })
	stands(t, l, 4*n+3+6*n, func(at int) api.Rect {
		switch {
		case at > n+1:
			return box(0, 4*n, 4, 4*n+3)
		case at > n:
			return rows(4*n, 4*n+3)
		}
		within := n - at // Blocks in this one
		return rows(4*at-1, 4*n+3+6*within+2)
	})
}

// Floats that wait in boxes of each depth are placed where the Atom stands at last, in order.
func TestDeepFloatsWait(t *testing.T) {
	l := page()
	for depth := 1; depth < api.MaxDepth-1; depth++ {
		l = append(l, block(depth, depth%7, 0), float(depth+1, api.Left, 10, 2))
	}
	l = append(l, text(api.MaxDepth-1, 9, 0), atom(api.MaxDepth, 40, 3))
	floats := api.MaxDepth - 2
	bottom := 9 + 2*((floats+3)/4)
	stands(t, l, bottom+3, func(at int) api.Rect {
		switch {
		case at == len(l)-1:
			return box(0, bottom, 40, bottom+3)
		case at == len(l)-2 || at%2 == 1:
			return rows(9, bottom+3)
		}
		n := at/2 - 1
		return box(n%4*10, 9+n/4*2, n%4*10+10, 9+n/4*2+2)
	})
}

// Boxes of each depth that clear a float: the first one is moved, all others are where it is.
func TestDeepClears(t *testing.T) {
	l := page(float(1, api.Left, 5, 20))
	for depth := 1; depth <= api.MaxDepth; depth++ {
		l = append(l, left(block(depth, 3, 3)))
	}
	stands(t, l, 20, func(at int) api.Rect {
		if at == 1 {
			return box(0, 0, 5, 20)
		}
		return rows(20, 20)
	})
	// None is moved, but each is looked into, down to the last one.
	l[2].Margins[0] = 20
	stands(t, l, 20, func(at int) api.Rect {
		if at == 1 {
			return box(0, 0, 5, 20)
		}
		return rows(20, 20)
	})
}

// all gives a page with as many boxes in it as may be.
func all(made func(at int) api.Box) []api.Box {
	l := page()
	for len(l) < api.MaxBoxes {
		l = append(l, made(len(l)))
	}
	return l
}

// As many Blocks as may be, one below the other.
func TestManyBlocks(t *testing.T) {
	l := all(func(int) api.Box { return high(2, block(1, 3, 1)) })
	stands(t, l, 5*(api.MaxBoxes-1)+1, func(at int) api.Rect { return rows(5*at-2, 5*at) })
}

// As many empty Blocks, whose margins all collapse: each is where those up to its own one above come to.
func TestManyEmptyBlocks(t *testing.T) {
	l := all(func(at int) api.Box { return block(1, at%9, -at%3) })
	stands(t, l, 6, func(at int) api.Rect {
		y := min(at, 8) + lowest(at)
		return rows(y, y)
	})
}

// lowest gives the least margin below of the Blocks ahead of one, of those of TestManyEmptyBlocks.
func lowest(at int) int {
	switch {
	case at > 2:
		return -2
	case at > 1:
		return -1
	}
	return 0
}

// As many Floats, four side by side.
func TestManyFloats(t *testing.T) {
	l := all(func(at int) api.Box { return float(1, 1+at%2, 10, 3) })
	stands(t, l, 3*api.MaxBoxes/4, func(at int) api.Rect {
		return atSide(1+at%2, (at-1)%4/2*10, (at-1)/4*3, 10, 3)
	})
}

// As many Floats that wait, in a box and in empty ones, and one line behind them.
func TestManyFloatsWait(t *testing.T) {
	l := page(block(1, 3, 0))
	for len(l) < api.MaxBoxes-3 {
		l = append(l, block(2, 5, 1), float(3, api.Left, 10, 1))
	}
	n := (len(l) - 2) / 2 // Floats
	bottom := 7 + n/4
	l = append(l, text(2, 7, 0), atom(3, 40-n%4*10, 2))
	stands(t, l, bottom+2, func(at int) api.Rect {
		switch {
		case at == len(l)-1:
			return box(n%4*10, bottom, 40, bottom+2)
		case at == 1 || at == len(l)-2:
			return rows(7, bottom+2)
		case at%2 == 0:
			return rows(7, 7)
		}
		i := (at - 3) / 2
		return box(i%4*10, 7+i/4, i%4*10+10, 8+i/4)
	})
}

// As many Atoms in a Text, four on a line.
func TestManyAtoms(t *testing.T) {
	l := all(func(at int) api.Box {
		if at == 1 {
			return text(1, 0, 0)
		}
		return atom(2, 10, 2)
	})
	n := (api.MaxBoxes - 2 + 3) / 4
	got := stands(t, l, 2*n, func(at int) api.Rect {
		if at == 1 {
			return rows(0, 2*n)
		}
		i := at - 2
		return box(i%4*10, i/4*2, i%4*10+10, i/4*2+2)
	})
	for i, x := range got.Lines {
		if atoms := min(4, api.MaxBoxes-2-4*i); x != lineOf(1, rows(2*i, 2*i+2), atoms, 10*atoms) {
			t.Fatal(i, x)
		}
	}
	if len(got.Lines) != n {
		t.Error(len(got.Lines), n)
	}
}

// As many Floats and Blocks that clear them, each moved below the last one.
func TestManyMoved(t *testing.T) {
	l := all(func(at int) api.Box {
		if at%2 == 1 {
			return float(1, api.Left, 10, 4)
		}
		return left(high(1, block(1, 0, 0)))
	})
	n := api.MaxBoxes / 2 // Floats
	stands(t, l, 5*n-1, func(at int) api.Rect {
		if at%2 == 1 {
			return box(0, at/2*5, 10, at/2*5+4)
		}
		return rows(at/2*5-1, at/2*5)
	})
}

// As many Roots.
func TestManyRoots(t *testing.T) {
	l := all(func(at int) api.Box { return root(1, 7, 2, 3, 1) })
	stands(t, l, 5*(api.MaxBoxes-1)+1, func(at int) api.Rect { return box(0, 5*at-2, 7, 5*at) })
}

// As many Blocks, one in the other and one behind the other, which clear a float that ends at the top: so each is looked
// into, and moved nowhere.
func TestManyLooks(t *testing.T) {
	l := all(func(at int) api.Box {
		if at == 1 {
			return float(1, api.Left, 5, 0)
		}
		return left(block(min(at-1, 200), 0, 0))
	})
	stands(t, l, 0, func(at int) api.Rect {
		if at == 1 {
			return box(0, 0, 5, 0)
		}
		return rows(0, 0)
	})
}

// The greatest numbers that boxes may have, and as many of them: nothing goes over.
func TestGreatNumbers(t *testing.T) {
	const big = api.MaxSize
	l := all(func(at int) api.Box { return edged(big, big, high(big, block(1, big, big))) })
	stands(t, l, 4*big*(api.MaxBoxes-1)+big, func(at int) api.Rect { return rows(4*big*(at-1)+big, 4*big*at) })
	l = all(func(at int) api.Box { return high(0, block(1, -big, -big)) })
	stands(t, l, 0, func(at int) api.Rect { return rows(-at*big, -at*big) })
	l = all(func(at int) api.Box {
		return framed(float(1, api.Left, big, big), [4]int{big, big, big, big}, [4]int{big, big, big, big})
	})
	stands(t, l, 5*big*(api.MaxBoxes-1), func(at int) api.Rect {
		return box(big, 5*big*at-4*big, 4*big, 5*big*at-big)
	})
}

// Heights of contents that are as great as may be, together: floats, a Root, and a Float among Atoms stand in order.
func TestGreatHeights(t *testing.T) {
	const far = 1 << 45
	in := asked(t, page(
		float(1, api.Left, 5, api.Auto), clearing(api.Left, root(1, 9, api.Auto, 1, 0)),
		text(1, 0, 0), atom(2, 1, 1), float(2, api.Left, 40, api.Auto), atom(2, 40, 1), float(2, api.Right, 40, api.Auto),
	), 0, far, far, 0, 0, far, 0, far)
	at := func(at int, b api.Rect) flow.Placed { return flow.Placed{At: at, Box: b} }
	answers(t, in, 0, flow.Output{
		Boxes: []flow.Placed{
			at(1, box(0, 0, 5, far)), at(2, box(0, far, 9, 2*far)), at(3, rows(2*far, 3*far+2)),
			at(4, box(0, 2*far, 1, 2*far+1)), at(5, box(0, 2*far+1, 40, 3*far+1)), at(6, box(0, 3*far+1, 40, 3*far+2)),
			at(7, box(0, 3*far+2, 40, 4*far+2)),
		},
		Lines:  lines(lineOf(3, rows(2*far, 2*far+1), 1, 1), lineOf(3, rows(3*far+1, 3*far+2), 1, 40)),
		Height: 4*far + 2,
	})
}

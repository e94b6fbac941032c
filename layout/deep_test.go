package layout_test

import (
	"testing"

	"runaround/api"
	"runaround/layout"
	"runaround/script"
)

// laid tells it if a box isn't where it is told to be, or a line, and gives the geometry; of trees that are too large to
// be told whole.
func laid(t *testing.T, l []api.Box, where func(at int) api.Rect, lines int, lineAt func(i int) layout.Line) layout.Geometry {
	t.Helper()
	g, at, e := layout.Layout(script.Encode(l))
	if len(g.Boxes) != len(l) || len(g.Lines) != lines || at != -1 || e != api.OK {
		t.Fatalf("%d boxes, of %d, and %d lines, of %d: %d, %v", len(g.Boxes), len(l), len(g.Lines), lines, at, e)
	}
	for at, b := range g.Boxes {
		if want := where(at); b != want {
			t.Fatalf("%d: %v, not %v", at, b, want)
		}
	}
	for i, got := range g.Lines {
		if want := lineAt(i); got != want {
			t.Fatalf("line %d: %v, not %v", i, got, want)
		}
	}
	if again, e := layout.Of(built(t, l)); !same(again, g) || e != api.OK {
		t.Fatal("another answer of the tree", e)
	}
	return g
}

// alone tells it if a box of a tree without lines isn't where it is told to be.
func alone(t *testing.T, l []api.Box, where func(at int) api.Rect) layout.Geometry {
	t.Helper()
	return laid(t, l, where, 0, nil)
}

// Floats in Floats, as deep as may be, with margins and edges on each side.
func TestDeepFloats(t *testing.T) {
	l := page([4]int{})
	for depth := 1; depth <= api.MaxDepth; depth++ {
		l = append(l, framed(float(depth, api.Left, 10, api.Auto), sides(1, 2, 3, 4), sides(5, 6, 7, 8)))
	}
	high := func(at int) int { return 16 * (api.MaxDepth - at) }
	alone(t, l, func(at int) api.Rect {
		if at == 0 {
			return box(0, 0, 40, high(0))
		}
		x, y := 12*(at-1)+4, 6*(at-1)+1
		return box(x, y, x+24, y+high(at)+12)
	})
}

// Blocks and Roots in turn, as deep as may be, with edges on each side: the Blocks' move no context, but what stands in it.
func TestDeepRoots(t *testing.T) {
	l := page(sides(1, 1, 1, 1))
	l[0].Width = 2000
	for depth := 1; depth <= api.MaxDepth; depth += 2 {
		l = append(l,
			framed(block(depth, api.Auto), sides(0, 0, 0, 1), sides(1, 1, 1, 1)),
			framed(root(depth+1, api.Auto), sides(0, 2, 0, 0), sides(1, 1, 1, 1)))
	}
	alone(t, l, func(at int) api.Rect {
		x, y, right := at+(at+1)/2, at, 2002-at-at/2*2
		high := 2 * (api.MaxDepth - at + 1)
		return box(x, y, right, y+high)
	})
}

// Texts in Floats, and Floats in Texts, in turn, as deep as may be: in each Text a line, below the Float.
func TestDeepTexts(t *testing.T) {
	l := page([4]int{})
	for depth := 1; depth < api.MaxDepth; depth += 2 {
		l = append(l, text(depth), float(depth+1, api.Left, 40, api.Auto))
	}
	n := api.MaxDepth / 2
	for depth := api.MaxDepth; depth > 0; depth -= 2 { // an Atom behind each Float, the innermost one first
		l = append(l, atom(depth, 7, 1))
	}
	laid(t, l, func(at int) api.Rect {
		if y := at - 2*n - 1; y >= 0 {
			return box(0, y, 7, y+1)
		}
		return box(0, 0, 40, n-at/2)
	}, n, func(i int) layout.Line {
		y := n - 1 - i
		return lineOf(2*i+1, box(0, y, 40, y+1), 3*n-i, 1)
	})
}

// Roots in Roots, as deep as may be, with a Text behind each: so the Texts' order is the contexts' turned round.
func TestTextsBehindDeepRoots(t *testing.T) {
	l := page([4]int{})
	l[0].Width = 1000
	for depth := 1; depth < api.MaxDepth; depth++ {
		l = append(l, framed(root(depth, api.Auto), [4]int{}, sides(2, 0, 0, 1)))
	}
	for depth := api.MaxDepth - 1; depth > 0; depth-- {
		l = append(l, text(depth), atom(depth+1, 3, 1))
	}
	const n = api.MaxDepth - 1 // Roots that stand in others, and Texts
	lineAt := func(i int) layout.Line {
		x, y := n-1-i, 2*n+i
		return lineOf(n+1+2*i, box(x, y, 1000, y+1), n+2+2*i, 1)
	}
	laid(t, l, func(at int) api.Rect {
		switch i := (at - n - 1) / 2; {
		case at == 0:
			return box(0, 0, 1000, 3*n)
		case at <= n:
			return box(at-1, 2*(at-1), 1000, 3*n-at)
		case (at-n)%2 == 1:
			return lineAt(i).Box
		default:
			b := lineAt(i).Box
			return box(b.Left, b.Top, b.Left+3, b.Bottom)
		}
	}, n, lineAt)
}

// The greatest numbers that boxes may have, in as many boxes, as deep as may be: nothing goes over.
func TestGreatNumbers(t *testing.T) {
	const big, deep = api.MaxSize, api.MaxDepth
	great := sides(big, big, big, big)
	l := page(great)
	l[0].Width = big
	for len(l) < deep {
		l = append(l, framed(float(len(l), api.Left, big, api.Auto), great, great))
	}
	for len(l) < api.MaxBoxes {
		b := framed(block(deep, big), great, great)
		b.Width = big
		l = append(l, b)
	}
	const blocks = api.MaxBoxes - deep
	innermost := 4*big*blocks + big // margins between Blocks collapse
	alone(t, l, func(at int) api.Rect {
		if at == 0 {
			return box(0, 0, 3*big, innermost+4*big*(deep-1)+2*big)
		}
		x := 2 * big * min(at, deep)
		if at < deep {
			return box(x, x, x+3*big, x+2*big+innermost+4*big*(deep-1-at))
		}
		y := x + 4*big*(at-deep)
		return box(x, y, x+3*big, y+3*big)
	})
}

// The least margins that boxes may have, as deep as may be, and as many of them: nothing goes over below, either.
func TestLeastNumbers(t *testing.T) {
	const big, deep = api.MaxSize, api.MaxDepth
	l := page([4]int{})
	for len(l) < deep {
		l = append(l, framed(float(len(l), api.Left, 40, 0), sides(-big, 0, 0, -big), [4]int{}))
	}
	for len(l) < api.MaxBoxes {
		l = append(l, framed(block(deep, 0), sides(-big, 0, -big, -big), [4]int{}))
	}
	alone(t, l, func(at int) api.Rect {
		switch x := -big * min(at, deep); {
		case at == 0:
			return box(0, 0, 40, 0)
		case at < deep:
			return box(x, x, x+40, x)
		default:
			y := x - big*(at-deep)
			return box(x, y, -big*(deep-1)+40, y)
		}
	})
}

// many gives a page with as many boxes in it as may be.
func many(edges [4]int, made func(at int) api.Box) []api.Box {
	l := page(edges)
	for len(l) < api.MaxBoxes {
		l = append(l, made(len(l)))
	}
	return l
}

// As many Blocks as may be in the first box, and in a Float with edges.
func TestManyBlocks(t *testing.T) {
	const n = api.MaxBoxes - 1
	alone(t, many(sides(3, 0, 0, 2), func(int) api.Box { return block(1, 2) }), func(at int) api.Rect {
		if at == 0 {
			return box(0, 0, 42, 3+2*n)
		}
		return box(2, 1+2*at, 42, 3+2*at)
	})
	l := many([4]int{}, func(int) api.Box { return block(2, 1) })
	l[1] = framed(float(1, api.Right, 10, api.Auto), sides(1, 0, 0, 0), sides(2, 0, 1, 3))
	alone(t, l, func(at int) api.Rect {
		switch at {
		case 0:
			return box(0, 0, 40, n+3)
		case 1:
			return box(27, 1, 40, n+3)
		}
		return box(30, at+1, 40, at+2)
	})
}

// As many Roots as may be, each with a Float in it, but the last one.
func TestManyRoots(t *testing.T) {
	l := many([4]int{}, func(at int) api.Box {
		if at%2 == 1 {
			return framed(root(1, 5), [4]int{}, sides(2, 0, 0, 3))
		}
		return float(2, api.Right, 4, 9)
	})
	alone(t, l, func(at int) api.Rect {
		if at == 0 {
			return box(0, 0, 40, 7*api.MaxBoxes/2)
		}
		y := (at - 1) / 2 * 7
		if at%2 == 1 {
			return box(0, y, 40, y+7)
		}
		return box(36, y+2, 40, y+11)
	})
}

// As many Atoms as may be in one Text, four on a line, in a Float with edges.
func TestManyAtoms(t *testing.T) {
	l := many([4]int{}, func(int) api.Box { return atom(3, 10, 2) })
	l[1], l[2] = framed(float(1, api.Left, 40, api.Auto), [4]int{}, sides(2, 0, 0, 3)), text(2)
	const atoms = api.MaxBoxes - 3
	const n = (atoms + 3) / 4 // lines
	laid(t, l, func(at int) api.Rect {
		switch at {
		case 0:
			return box(0, 0, 40, 2*n+2)
		case 1:
			return box(0, 0, 43, 2*n+2)
		case 2:
			return box(3, 2, 43, 2*n+2)
		}
		x, y := 3+(at-3)%4*10, 2+(at-3)/4*2
		return box(x, y, x+10, y+2)
	}, n, func(i int) layout.Line {
		return lineOf(2, box(3, 2+2*i, 43, 4+2*i), 3+4*i, min(4, atoms-4*i))
	})
}

// As many Texts as may be, in turn in the first box and in a Root of their own, each with a line.
func TestManyTexts(t *testing.T) {
	l := page([4]int{})
	for len(l)+5 <= api.MaxBoxes {
		l = append(l, framed(root(1, api.Auto), [4]int{}, sides(0, 0, 0, 5)), text(2), atom(3, 9, 2), text(1), atom(2, 6, 1))
	}
	n := len(l) / 5
	lineAt := func(i int) layout.Line {
		at, y := i/2*5, i/2*3
		if i%2 == 0 {
			return lineOf(at+2, box(5, y, 40, y+2), at+3, 1)
		}
		return lineOf(at+4, box(0, y+2, 40, y+3), at+5, 1)
	}
	laid(t, l, func(at int) api.Rect {
		if at == 0 {
			return box(0, 0, 40, 3*n)
		}
		i, y := (at-1)/5*2, (at-1)/5*3
		switch at % 5 {
		case 1:
			return box(0, y, 40, y+2)
		case 2:
			return lineAt(i).Box
		case 3:
			return box(5, y, 14, y+2)
		case 4:
			return lineAt(i + 1).Box
		}
		return box(0, y+2, 6, y+3)
	}, 2*n, lineAt)
}

// As many Floats as may be among the Atoms of one Text, each of which has a Text of its own.
func TestManyFloatsWithTexts(t *testing.T) {
	l := append(page([4]int{}), text(1))
	for len(l)+4 <= api.MaxBoxes {
		l = append(l, atom(2, 34, 3), framed(float(2, api.Left, 5, api.Auto), [4]int{}, sides(0, 0, 0, 1)), text(3), atom(4, 5, 3))
	}
	n := (len(l) - 2) / 4
	lineAt := func(i int) layout.Line {
		if i < n { // those of the outer Text come first
			return lineOf(1, box(6, 3*i, 40, 3*i+3), 4*i+2, 1)
		}
		i -= n
		return lineOf(4*i+4, box(1, 3*i, 6, 3*i+3), 4*i+5, 1)
	}
	laid(t, l, func(at int) api.Rect {
		i := (at - 2) / 4
		switch {
		case at < 2:
			return box(0, 0, 40, 3*n)
		case at%4 == 2:
			return lineAt(i).Box
		case at%4 == 3:
			return box(0, 3*i, 6, 3*i+3)
		}
		return lineAt(n + i).Box
	}, 2*n, lineAt)
}

package context_test

import (
	"testing"

	"runaround/api"
	"runaround/context"
	"runaround/flow"
)

// heights tells it if the contents aren't as high as they are told to be, or a box isn't found where it is told to be;
// of trees that are too large to be told whole.
func heights(t *testing.T, l []api.Box, height func(at int) int, where func(at int) api.Rect) {
	t.Helper()
	x := built(t, l)
	r := context.All(x)
	if len(r.Frames) != len(l) || len(r.Heights) != len(l) || len(r.Outputs) != len(l) {
		t.Fatal(len(r.Frames), len(r.Heights), len(r.Outputs), len(l))
	}
	for at := range l {
		if r.Heights[at] != height(at) {
			t.Fatalf("%d is %d high, not %d", at, r.Heights[at], height(at))
		}
		want := flow.Placed{At: at, Box: where(at)}
		if got, ok := r.Find(x, at); at > 0 && (got != want || !ok) {
			t.Fatalf("%v, %v, not %v", got, ok, want)
		}
	}
	nowhere(t, x, r)
	if again := context.All(x); !same(again, r) {
		t.Fatal("another answer, asked again")
	}
}

// Floats in Floats, as deep as may be: each content is as high as the margin box within.
func TestDeepFloats(t *testing.T) {
	for _, last := range []own{{api.Auto, 0}, {0, 0}, {5, 5}} {
		l := page()
		for depth := 1; depth <= api.MaxDepth; depth++ {
			l = append(l, apart(1, 4, edged(2, 3, float(depth, 10, api.Auto))))
		}
		l[api.MaxDepth].Height = last.height
		height := func(at int) int { return last.content + 10*(api.MaxDepth-at) }
		heights(t, l, height, func(at int) api.Rect { return box(0, 1, 10, 1+height(at)+5) })
	}
}

// One Float of so many has a Height of its own: those within are as they were, those around are as high as that lets
// them be.
func TestDeepFloatsAroundAHeight(t *testing.T) {
	const middle = 100
	l := page()
	for depth := 1; depth <= api.MaxDepth; depth++ {
		l = append(l, edged(2, 3, float(depth, 10, api.Auto)))
	}
	l[middle].Height = 7
	height := func(at int) int {
		if at <= middle {
			return 7 + 5*(middle-at)
		}
		return 5 * (api.MaxDepth - at)
	}
	heights(t, l, height, func(at int) api.Rect { return box(0, 0, 10, height(at)+5) })
}

// Roots and Blocks in turn, as deep as may be: Roots' margins collapse with nothing around them.
func TestDeepRoots(t *testing.T) {
	l := page()
	for depth := 1; depth <= api.MaxDepth; depth += 2 {
		l = append(l, block(depth, api.Auto), apart(2, 3, root(depth+1, api.Auto)))
	}
	height := func(at int) int {
		if at%2 == 1 {
			return 0
		}
		return 5 * (api.MaxDepth - at) / 2
	}
	heights(t, l, height, func(at int) api.Rect {
		return box(0, 2, 40, 2+height(at+at%2))
	})
}

// Floats beside Atoms, as deep as may be: each is below the Atom of its Text, as it has no room beside it.
func TestDeepTexts(t *testing.T) {
	l := page()
	for depth := 1; depth < api.MaxDepth; depth += 2 {
		l = append(l, text(depth), atom(depth+1, 40, 1), float(depth+1, 40, api.Auto))
	}
	last := len(l) - 1 // it is 0 high: as it isn't full, it stands beside the Atom all the same
	height := func(at int) int {
		if at%3 > 0 || at == last {
			return 0
		}
		return (last - at) / 3
	}
	heights(t, l, height, func(at int) api.Rect {
		switch {
		case at%3 > 0:
			return box(0, 0, 40, 1)
		case at == last:
			return box(0, 0, 40, 0)
		}
		return box(0, 1, 40, 1+height(at))
	})
}

// many gives a page with as many boxes in it as may be.
func many(made func(at int) api.Box) []api.Box {
	l := page()
	for len(l) < api.MaxBoxes {
		l = append(l, made(len(l)))
	}
	return l
}

// As many Roots as may be, each with a Float in it, but the last one.
func TestManyRoots(t *testing.T) {
	const last = api.MaxBoxes - 1
	l := many(func(at int) api.Box {
		if at%2 == 1 {
			return apart(1, 0, root(1, api.Auto))
		}
		return float(2, 6, 3)
	})
	height := func(at int) int {
		switch at {
		case 0:
			return 2*last - 1
		case last:
			return 0
		}
		return 3
	}
	heights(t, l, height, func(at int) api.Rect {
		if at%2 == 0 {
			return box(0, 0, 6, 3)
		}
		return box(0, 2*at-1, 40, 2*at-1+height(at))
	})
}

// As many Floats as may be, four of them side by side, each with a Block in it, but the last one.
func TestManyFloats(t *testing.T) {
	l := many(func(at int) api.Box {
		if at%2 == 1 {
			return float(1, 10, api.Auto)
		}
		return block(2, 3)
	})
	height := func(at int) int {
		switch {
		case at == 0:
			return 3 * api.MaxBoxes / 8
		case at%2 == 1 && at < api.MaxBoxes-1:
			return 3
		}
		return 0
	}
	heights(t, l, height, func(at int) api.Rect {
		if at%2 == 0 {
			return box(0, 0, 10, 3)
		}
		x, y := at/2%4*10, at/8*3
		return box(x, y, x+10, y+height(at))
	})
}

// A Float with as many Floats in it as may be, each of which is a context of its own, without a box.
func TestManyInAFloat(t *testing.T) {
	l := many(func(at int) api.Box { return float(min(at, 2), 10, 3) })
	l[1].Width, l[1].Height = 30, api.Auto
	high := (api.MaxBoxes - 2 + 2) / 3 * 3
	height := func(at int) int {
		if at < 2 {
			return high
		}
		return 3
	}
	heights(t, l, height, func(at int) api.Rect {
		if at == 1 {
			return box(0, 0, 30, high)
		}
		x, y := (at-2)%3*10, (at-2)/3*3
		return box(x, y, x+10, y+3)
	})
}

// As many Floats as may be beside Atoms, one Float a line, each with a Block in it.
func TestManyBesideAtoms(t *testing.T) {
	l := append(page(), text(1))
	for len(l)+3 <= api.MaxBoxes {
		l = append(l, atom(2, 34, 3), float(2, 6, api.Auto), block(3, 3))
	}
	height := func(at int) int {
		switch {
		case at == 0:
			return len(l) - 2
		case at%3 == 0:
			return 3
		}
		return 0
	}
	heights(t, l, height, func(at int) api.Rect {
		y := (at - 2) / 3 * 3
		switch {
		case at == 1:
			return box(0, 0, 40, len(l)-2)
		case at%3 == 2:
			return box(6, y, 40, y+3)
		case at%3 == 0:
			return box(0, y, 6, y+3)
		}
		return box(0, 0, 6, 3)
	})
}

// The greatest numbers that boxes may have, in as many of them, as deep as may be: nothing goes over, though the heights
// of all contents together come to more than those that one context asks for.
func TestGreatHeights(t *testing.T) {
	const big = api.MaxSize
	l := many(func(at int) api.Box { return edged(big, big, float(min(at, api.MaxDepth), 10, api.Auto)) })
	for at := api.MaxDepth; at < len(l); at++ {
		l[at] = apart(big, big, edged(big, big, block(api.MaxDepth, big)))
	}
	innermost := 4*big*(len(l)-api.MaxDepth) + big
	height := func(at int) int {
		if at < api.MaxDepth {
			return innermost + 2*big*(api.MaxDepth-1-at)
		}
		return 0
	}
	heights(t, l, height, func(at int) api.Rect {
		if at < api.MaxDepth {
			return box(0, 0, 10, height(at)+2*big)
		}
		y := 4*big*(at-api.MaxDepth) + big
		return box(0, y, 10, y+3*big)
	})
}

package text_test

import (
	"slices"
	"testing"

	"runaround/api"
	"runaround/line"
	"runaround/place"
	"runaround/rect"
	"runaround/space"
	"runaround/text"
)

// big is the greatest number of a size, far the greatest one of all else, -far the least.
const (
	big = 1 << 31
	far = 1 << 47
)

// box gives a rectangle.
func box(left, top, right, bottom int) api.Rect {
	return api.Rect{Left: left, Top: top, Right: right, Bottom: bottom}
}

// left gives a left float in some columns and rows.
func left(from, to, top, bottom int) space.Float {
	return space.Float{Side: api.Left, Box: box(from, top, to, bottom)}
}

// right gives a right float in some columns and rows.
func right(from, to, top, bottom int) space.Float {
	return space.Float{Side: api.Right, Box: box(from, top, to, bottom)}
}

// of gives the space of floats, put into it in order.
func of(floats ...space.Float) *space.Space {
	s := space.New()
	for _, f := range floats {
		s.Put(f.Side, f.Box)
	}
	return s
}

// span gives some columns.
func span(from, to int) rect.Span { return rect.Span{From: from, To: to} }

// ten is the columns of most tests.
func ten() rect.Span { return span(0, 10) }

// z gives a size.
func z(width, height int) line.Size { return line.Size{Width: width, Height: height} }

// atom gives an atom.
func atom(width, height int) text.Item { return text.Item{Size: z(width, height)} }

// float gives a float that clears nothing.
func float(side, width, height int) text.Item { return text.Item{Side: side, Size: z(width, height)} }

// clears gives a float that clears something.
func clears(side, clear, width, height int) text.Item {
	return text.Item{Side: side, Clear: clear, Size: z(width, height)}
}

// items gives a list of items.
func items(l ...text.Item) []text.Item { return l }

// lineOf gives a line.
func lineOf(b api.Rect, atoms, wide int) line.Line {
	return line.Line{Box: b, Atoms: atoms, Wide: wide}
}

// lines gives a list of lines.
func lines(l ...line.Line) []line.Line { return l }

// laid gives where items are.
func laid(bottom int, l []line.Line, boxes ...api.Rect) text.Laid {
	return text.Laid{Boxes: boxes, Lines: l, Bottom: bottom}
}

// same tells whether items are at the same places.
func same(a, b text.Laid) bool {
	return slices.Equal(a.Boxes, b.Boxes) && slices.Equal(a.Lines, b.Lines) && a.Bottom == b.Bottom
}

// lays tells it if items are laid otherwise; if the space has other floats then than those of before, and the items'
// own behind them, in order; if a full one of them meets a line; or if the list of items is changed.
func lays(t *testing.T, s *space.Space, columns rect.Span, y int, l []text.Item, want text.Laid) {
	t.Helper()
	put, handed := s.Floats(), slices.Clone(l)
	got := text.Lay(s, columns, y, l)
	if !same(got, want) {
		t.Errorf("%v from %d on, %v: %v, not %v", columns, y, handed, got, want)
	}
	for i, item := range handed {
		if item.Side != api.None && i < len(want.Boxes) {
			put = append(put, space.Float{Side: item.Side, Box: want.Boxes[i]})
		}
	}
	if floats := s.Floats(); !slices.Equal(floats, put) {
		t.Errorf("%v from %d on, %v: floats %v, not %v", columns, y, handed, floats, put)
	}
	meetNot(t, s.Floats(), got.Lines)
	if !slices.Equal(l, handed) {
		t.Errorf("%v, not %v", l, handed)
	}
}

// meetNot tells it if a full float meets a line.
func meetNot(t *testing.T, floats []space.Float, lines []line.Line) {
	t.Helper()
	for _, f := range floats {
		for _, x := range lines {
			if rect.Meet(f.Box, x.Box) {
				t.Errorf("%v meets %v", f, x)
			}
		}
	}
}

// The chapter's example.
func TestExample(t *testing.T) {
	lays(t, space.New(), ten(), 0, items(atom(4, 1), float(api.Left, 3, 1)),
		laid(1, lines(lineOf(box(3, 0, 10, 1), 1, 4)), box(3, 0, 7, 1), box(0, 0, 3, 1)))
}

// The document's eighth example of the whole: a float between atoms, with room beside the line, and without.
func TestExampleOfTheWhole(t *testing.T) {
	lays(t, space.New(), ten(), 0, items(atom(4, 1), float(api.Right, 3, 2), atom(3, 1)),
		laid(1, lines(lineOf(box(0, 0, 7, 1), 2, 7)), box(0, 0, 4, 1), box(7, 0, 10, 2), box(4, 0, 7, 1)))
	lays(t, space.New(), ten(), 0, items(atom(4, 1), float(api.Right, 7, 2), atom(3, 1)),
		laid(1, lines(lineOf(box(0, 0, 10, 1), 2, 7)), box(0, 0, 4, 1), box(3, 1, 10, 3), box(4, 0, 7, 1)))
}

// No items: nothing is laid, and the next thing may begin where these would have.
func TestNoItems(t *testing.T) {
	for _, y := range []int{-far, -7, 0, 4, far} {
		lays(t, space.New(), ten(), y, nil, laid(y, nil))
		lays(t, space.New(), span(3, 3), y, items(), laid(y, nil))
		lays(t, of(left(0, 10, -9, 9), right(4, 10, 9, 12)), ten(), y, nil, laid(y, nil))
	}
}

// Atoms alone: side by side, a line below the other one.
func TestAtomsAlone(t *testing.T) {
	lays(t, space.New(), ten(), 1, items(atom(4, 2), atom(4, 1), atom(4, 1)),
		laid(4, lines(lineOf(box(0, 1, 10, 3), 2, 8), lineOf(box(0, 3, 10, 4), 1, 4)),
			box(0, 1, 4, 3), box(4, 1, 8, 2), box(0, 3, 4, 4)))
	lays(t, space.New(), span(-3, 7), -2, items(atom(3, 1), atom(7, 5), atom(1, 1), atom(9, 0), atom(1, 1)),
		laid(5, lines(lineOf(box(-3, -2, 7, 3), 2, 10), lineOf(box(-3, 3, 7, 4), 2, 10), lineOf(box(-3, 4, 7, 5), 1, 1)),
			box(-3, -2, 0, -1), box(0, -2, 7, 3), box(-3, 3, -2, 4), box(-2, 3, 7, 3), box(-3, 4, -2, 5)))
	lays(t, of(left(0, 3, 0, 2), right(9, 10, 1, 4)), ten(), 0, items(atom(5, 1), atom(3, 1), atom(4, 2), atom(9, 3)),
		laid(7, lines(lineOf(box(3, 0, 10, 1), 1, 5), lineOf(box(3, 1, 9, 2), 1, 3), lineOf(box(0, 2, 9, 4), 1, 4),
			lineOf(box(0, 4, 10, 7), 1, 9)),
			box(3, 0, 8, 1), box(3, 1, 6, 2), box(0, 2, 4, 4), box(0, 4, 9, 7)))
}

// Atoms alone make the lines that layer 13 makes of them; and one has nothing to do with what it clears.
func TestAtomsAloneMakeTheirLines(t *testing.T) {
	for seed := range 300 {
		c := chosen(seed)
		floats, columns, y := c.floats(9), c.columns(), c.to(30)-8
		var sizes []line.Size
		var l []text.Item
		for range c.to(30) {
			sizes = append(sizes, c.size())
			l = append(l, text.Item{Clear: c.to(4), Size: sizes[len(sizes)-1]})
		}
		want := line.All(of(floats...), columns, y, sizes)
		if got := text.Lay(of(floats...), columns, y, l).Lines; !slices.Equal(got, want) {
			t.Errorf("%v, %v from %d on, %v: %v, not %v", floats, columns, y, sizes, got, want)
		}
	}
}

// Floats alone: one behind the other, from the height on, and no line.
func TestFloatsAlone(t *testing.T) {
	lays(t, space.New(), ten(), 2, items(float(api.Left, 3, 4), float(api.Left, 3, 4), float(api.Right, 5, 2)),
		laid(2, nil, box(0, 2, 3, 6), box(3, 2, 6, 6), box(5, 6, 10, 8)))
	lays(t, of(right(2, 10, 0, 3)), ten(), -9, items(float(api.Left, 2, 4), float(api.Right, 9, 1), float(api.Left, 2, 1)),
		laid(-9, nil, box(0, 0, 2, 4), box(1, 4, 10, 5), box(0, 5, 2, 6)))
	lays(t, space.New(), ten(), 2, items(float(api.Left, 12, 1), float(api.Right, 12, 1), clears(api.Left, api.Both, 1, 1)),
		laid(2, nil, box(0, 2, 12, 3), box(-2, 3, 10, 4), box(0, 4, 1, 5)))
}

// Floats alone are placed as layer 11 places them, one after the other.
func TestFloatsAloneArePlaced(t *testing.T) {
	for seed := range 300 {
		c := chosen(seed)
		floats, columns, y := c.floats(9), c.columns(), c.to(30)-8
		s := of(floats...)
		var want []api.Rect
		var l []text.Item
		for range c.to(20) {
			f := c.among()
			l = append(l, f)
			want = append(want, place.Put(s, place.Want{
				Side: f.Side, Clear: f.Clear, Columns: columns, Width: f.Size.Width, Height: f.Size.Height, From: y,
			}))
		}
		lays(t, of(floats...), columns, y, l, laid(y, nil, want...))
	}
}

// A float ahead of all atoms, below what it clears, of both sides; and the atoms beside it, or above.
func TestFloatAheadOfAtoms(t *testing.T) {
	before := []space.Float{left(0, 4, 0, 6), right(8, 10, 0, 3)}
	for _, x := range []struct {
		clear             int
		left, right       api.Rect
		lineLeft, lineEnd int // of the line beside the left one, and beside the right one
	}{
		{api.None, box(4, 1, 6, 3), box(6, 1, 8, 3), 6, 6},
		{api.Left, box(0, 6, 2, 8), box(8, 6, 10, 8), 4, 8},
		{api.Right, box(4, 3, 6, 5), box(8, 3, 10, 5), 4, 8},
		{api.Both, box(0, 6, 2, 8), box(8, 6, 10, 8), 4, 8},
	} {
		lays(t, of(before...), ten(), 1, items(clears(api.Left, x.clear, 2, 2), atom(1, 1)),
			laid(2, lines(lineOf(box(x.lineLeft, 1, 8, 2), 1, 1)), x.left, box(x.lineLeft, 1, x.lineLeft+1, 2)))
		lays(t, of(before...), ten(), 1, items(clears(api.Right, x.clear, 2, 2), atom(1, 1)),
			laid(2, lines(lineOf(box(4, 1, x.lineEnd, 2), 1, 1)), x.right, box(4, 1, 5, 2)))
	}
}

// A float ahead of all atoms, or between two lines, clears those that the items ahead of it brought, too.
func TestFloatClearsThoseAhead(t *testing.T) {
	lays(t, space.New(), ten(), 1,
		items(float(api.Left, 3, 5), clears(api.Left, api.Right, 1, 1), clears(api.Right, api.Left, 2, 1), atom(9, 2), atom(2, 1)),
		laid(10, lines(lineOf(box(0, 7, 10, 9), 1, 9), lineOf(box(0, 9, 10, 10), 1, 2)),
			box(0, 1, 3, 6), box(3, 1, 4, 2), box(8, 6, 10, 7), box(0, 7, 9, 9), box(0, 9, 2, 10)))
	// neither a float nor what it clears moves Bottom
	lays(t, of(left(0, 2, 0, 90)), ten(), 1, items(clears(api.Left, api.Left, 10, 1), atom(8, 2)),
		laid(3, lines(lineOf(box(2, 1, 10, 3), 1, 8)), box(0, 90, 10, 91), box(2, 1, 10, 3)))
}

// A float while there is a line, with just as much room left as its atom is wide, and with one less.
func TestFloatBesideTheLine(t *testing.T) {
	for width := range 8 {
		l, r := items(atom(6, 2), float(api.Left, width, 4)), items(atom(6, 2), float(api.Right, width, 4))
		if width > 4 {
			line := lines(lineOf(box(0, 2, 10, 4), 1, 6))
			lays(t, space.New(), ten(), 2, l, laid(4, line, box(0, 2, 6, 4), box(0, 4, width, 8)))
			lays(t, space.New(), ten(), 2, r, laid(4, line, box(0, 2, 6, 4), box(10-width, 4, 10, 8)))
			continue
		}
		lays(t, space.New(), ten(), 2, l,
			laid(4, lines(lineOf(box(width, 2, 10, 4), 1, 6)), box(width, 2, width+6, 4), box(0, 2, width, 6)))
		lays(t, space.New(), ten(), 2, r,
			laid(4, lines(lineOf(box(0, 2, 10-width, 4), 1, 6)), box(0, 2, 6, 4), box(10-width, 2, 10, 6)))
	}
}

// All atoms of a line count, and all floats beside it: further atoms fit into what these leave.
func TestFloatsAndAtomsInTurn(t *testing.T) {
	lays(t, space.New(), ten(), 0,
		items(atom(2, 1), float(api.Left, 3, 1), atom(1, 1), float(api.Right, 3, 1), float(api.Left, 1, 1), atom(1, 1)),
		laid(2, lines(lineOf(box(4, 0, 7, 1), 2, 3), lineOf(box(0, 1, 10, 2), 1, 1)),
			box(4, 0, 6, 1), box(0, 0, 3, 1), box(6, 0, 7, 1), box(7, 0, 10, 1), box(3, 0, 4, 1), box(0, 1, 1, 2)))
	lays(t, space.New(), ten(), 0,
		items(atom(2, 1), float(api.Left, 3, 1), atom(3, 1), float(api.Right, 3, 1), float(api.Left, 1, 1), atom(1, 1)),
		laid(1, lines(lineOf(box(3, 0, 10, 1), 3, 6)),
			box(3, 0, 5, 1), box(0, 0, 3, 1), box(5, 0, 8, 1), box(7, 1, 10, 2), box(0, 1, 1, 2), box(8, 0, 9, 1)))
}

// Floats beside a line move its first atom to the line's left edge as it is at the end, and all others with it.
func TestFloatsMoveTheLine(t *testing.T) {
	lays(t, space.New(), ten(), 3,
		items(atom(2, 1), atom(1, 2), float(api.Left, 3, 9), atom(0, 1), float(api.Right, 2, 9), float(api.Left, 1, 4), atom(1, 3)),
		laid(6, lines(lineOf(box(4, 3, 8, 6), 4, 4)),
			box(4, 3, 6, 4), box(6, 3, 7, 5), box(0, 3, 3, 12), box(7, 3, 7, 4), box(8, 3, 10, 12), box(3, 3, 4, 7), box(7, 3, 8, 6)))
	// so does a float that begins lower, as a higher atom comes to stand on the line
	lays(t, of(left(0, 3, 2, 5)), ten(), 0, items(atom(4, 1), atom(1, 3), atom(3, 1)),
		laid(4, lines(lineOf(box(3, 0, 10, 3), 2, 5), lineOf(box(3, 3, 10, 4), 1, 3)),
			box(3, 0, 7, 1), box(7, 0, 8, 3), box(3, 3, 6, 4)))
}

// A float that is placed below the line's top waits, even where it would stand beside the line: where it is too wide,
// and where an earlier one stands lower.
func TestFloatThatIsPlacedLower(t *testing.T) {
	lays(t, of(left(0, 5, 0, 3)), ten(), 2, items(atom(1, 4), float(api.Left, 6, 1)),
		laid(6, lines(lineOf(box(5, 2, 10, 6), 1, 1)), box(5, 2, 6, 6), box(0, 6, 6, 7)))
	lays(t, of(left(0, 5, 0, 3)), ten(), 2, items(atom(1, 4), float(api.Right, 6, 1)),
		laid(6, lines(lineOf(box(5, 2, 10, 6), 1, 1)), box(5, 2, 6, 6), box(4, 6, 10, 7)))
	lays(t, of(left(0, 5, 0, 3)), ten(), 2, items(atom(1, 4), float(api.Left, 4, 1)),
		laid(6, lines(lineOf(box(9, 2, 10, 6), 1, 1)), box(9, 2, 10, 6), box(5, 2, 9, 3)))
	lays(t, of(right(9, 10, 4, 5)), ten(), 2, items(atom(1, 1), float(api.Left, 1, 1)),
		laid(3, lines(lineOf(box(0, 2, 10, 3), 1, 1)), box(0, 2, 1, 3), box(0, 4, 1, 5)))
	lays(t, of(right(9, 10, 2, 5)), ten(), 2, items(atom(1, 1), float(api.Left, 1, 1)),
		laid(3, lines(lineOf(box(1, 2, 9, 3), 1, 1)), box(1, 2, 2, 3), box(0, 2, 1, 3)))
}

// A float that isn't full goes beside any line, if it is placed at its top; else it waits.
func TestFloatThatIsNotFull(t *testing.T) {
	for _, height := range []int{-big, -4, 0} {
		lays(t, space.New(), ten(), 2, items(atom(9, 2), float(api.Left, 9, height), float(api.Right, 15, height), atom(1, 1)),
			laid(4, lines(lineOf(box(0, 2, 10, 4), 2, 10)),
				box(0, 2, 9, 4), box(0, 2, 9, 2+height), box(-5, 2, 10, 2+height), box(9, 2, 10, 3)))
		lays(t, of(left(0, 5, 0, 3)), ten(), 2, items(atom(1, 4), float(api.Left, 6, height), float(api.Left, 0, 0)),
			laid(6, lines(lineOf(box(5, 2, 10, 6), 1, 1)), box(5, 2, 6, 6), box(0, 6, 6, 6+height), box(0, 6, 0, 6)))
	}
	for _, width := range []int{-big, -4, 0} {
		lays(t, space.New(), ten(), 2, items(atom(12, 2), float(api.Left, width, 3), float(api.Right, width, 3)),
			laid(4, lines(lineOf(box(0, 2, 10, 4), 1, 12)), box(0, 2, 12, 4), box(0, 2, width, 5), box(10-width, 2, 10, 5)))
		lays(t, of(left(0, 1, 0, 3)), ten(), 2, items(atom(9, 2), clears(api.Left, api.Left, width, 3)),
			laid(4, lines(lineOf(box(1, 2, 10, 4), 1, 9)), box(1, 2, 10, 4), box(0, 4, width, 7)))
	}
}

// A float with a Clear, beside a line that begins beside what it clears, or not.
func TestFloatThatClearsBesideALine(t *testing.T) {
	before := []space.Float{left(0, 3, 0, 5), right(9, 10, 0, 1)}
	line := lineOf(box(3, 1, 10, 2), 1, 2)
	for _, clear := range []int{api.Left, api.Both} {
		lays(t, of(before...), ten(), 1, items(atom(2, 1), clears(api.Left, clear, 1, 1)),
			laid(2, lines(line), box(3, 1, 5, 2), box(0, 5, 1, 6)))
		lays(t, of(before...), ten(), 1, items(atom(2, 1), clears(api.Right, clear, 1, 1), atom(1, 1)),
			laid(2, lines(lineOf(box(3, 1, 10, 2), 2, 3)), box(3, 1, 5, 2), box(9, 5, 10, 6), box(5, 1, 6, 2)))
	}
	for _, clear := range []int{api.None, api.Right} {
		lays(t, of(before...), ten(), 1, items(atom(2, 1), clears(api.Left, clear, 1, 1)),
			laid(2, lines(lineOf(box(4, 1, 10, 2), 1, 2)), box(4, 1, 6, 2), box(3, 1, 4, 2)))
		lays(t, of(before...), ten(), 1, items(atom(2, 1), clears(api.Right, clear, 1, 1)),
			laid(2, lines(lineOf(box(3, 1, 9, 2), 1, 2)), box(3, 1, 5, 2), box(9, 1, 10, 2)))
	}
	// one that clears what stands beside the line already
	lays(t, space.New(), ten(), 0, items(atom(4, 1), float(api.Right, 2, 2), clears(api.Right, api.Right, 2, 2), atom(1, 1)),
		laid(1, lines(lineOf(box(0, 0, 8, 1), 2, 5)), box(0, 0, 4, 1), box(8, 0, 10, 2), box(8, 2, 10, 4), box(4, 0, 5, 1)))
}

// A float waits if one waits already, even where it would have room; those that wait are placed in order.
func TestFloatWaitsBehindOneThatWaits(t *testing.T) {
	lays(t, space.New(), ten(), 0,
		items(atom(4, 1), float(api.Left, 7, 2), float(api.Left, 1, 1), float(api.Right, 0, 0), atom(2, 1), float(api.Right, 1, 4), atom(9, 1)),
		laid(4, lines(lineOf(box(0, 0, 10, 1), 2, 6), lineOf(box(0, 3, 9, 4), 1, 9)),
			box(0, 0, 4, 1), box(0, 1, 7, 3), box(7, 1, 8, 2), box(10, 1, 10, 1), box(4, 0, 6, 1), box(9, 1, 10, 5), box(0, 3, 9, 4)))
	// behind the line's end none waits any more
	lays(t, space.New(), ten(), 0,
		items(atom(4, 1), float(api.Left, 7, 2), atom(7, 1), float(api.Left, 1, 1), float(api.Right, 3, 1)),
		laid(4, lines(lineOf(box(0, 0, 10, 1), 1, 4), lineOf(box(1, 3, 10, 4), 1, 7)),
			box(0, 0, 4, 1), box(0, 1, 7, 3), box(1, 3, 8, 4), box(0, 3, 1, 4), box(7, 4, 10, 5)))
	lays(t, space.New(), ten(), 0, items(atom(4, 1), float(api.Left, 7, 2), atom(7, 1), float(api.Right, 3, 1)),
		laid(4, lines(lineOf(box(0, 0, 10, 1), 1, 4), lineOf(box(0, 3, 7, 4), 1, 7)),
			box(0, 0, 4, 1), box(0, 1, 7, 3), box(0, 3, 7, 4), box(7, 3, 10, 4)))
}

// Those that wait are placed from the line's bottom on, each where layer 11 places it; the next atom begins its line
// where these leave room.
func TestThoseThatWaitArePlaced(t *testing.T) {
	ahead := items(atom(9, 2), atom(1, 3),
		float(api.Left, 2, 2), float(api.Right, 3, 1), float(api.Left, 6, 1), clears(api.Right, api.Left, 1, 1))
	at := []api.Rect{box(0, 0, 9, 2), box(9, 0, 10, 3),
		box(0, 3, 2, 5), box(7, 3, 10, 4), box(2, 4, 8, 5), box(9, 5, 10, 6)}
	line := lineOf(box(0, 0, 10, 3), 2, 10)
	lays(t, space.New(), ten(), 0, ahead, laid(3, lines(line), at...))
	lays(t, space.New(), ten(), 0, append(ahead, atom(8, 1), atom(1, 1)),
		laid(6, lines(line, lineOf(box(0, 5, 9, 6), 2, 9)), append(at, box(0, 5, 8, 6), box(8, 5, 9, 6))...))
	lays(t, space.New(), ten(), 0, append(ahead, atom(4, 1), atom(1, 1)),
		laid(4, lines(line, lineOf(box(2, 3, 7, 4), 2, 5)), append(at, box(2, 3, 6, 4), box(6, 3, 7, 4))...))
	lays(t, space.New(), ten(), 0, append(ahead, atom(10, 1)),
		laid(7, lines(line, lineOf(box(0, 6, 10, 7), 1, 10)), append(at, box(0, 6, 10, 7))...))
}

// One that waits stands below the line, but not above what stands lower already, nor above one that waits ahead of it.
func TestThoseThatWaitStandLower(t *testing.T) {
	lays(t, of(right(9, 10, 7, 8)), ten(), 0, items(atom(4, 1), float(api.Left, 1, 1), float(api.Left, 1, 1), atom(7, 1)),
		laid(2, lines(lineOf(box(0, 0, 10, 1), 1, 4), lineOf(box(0, 1, 10, 2), 1, 7)),
			box(0, 0, 4, 1), box(0, 7, 1, 8), box(1, 7, 2, 8), box(0, 1, 7, 2)))
	lays(t, space.New(), ten(), 0, items(atom(4, 1), float(api.Left, 8, 5), float(api.Left, 3, 5), float(api.Right, 1, 1), atom(2, 2)),
		laid(2, lines(lineOf(box(0, 0, 10, 2), 2, 6)),
			box(0, 0, 4, 1), box(0, 2, 8, 7), box(0, 7, 3, 12), box(9, 7, 10, 8), box(4, 0, 6, 2)))
}

// Floats that wait behind the last atom are placed below it, and move Bottom not.
func TestThoseThatWaitAtTheEnd(t *testing.T) {
	lays(t, space.New(), ten(), 5, items(atom(4, 2), atom(4, 3), float(api.Right, 3, 9), float(api.Left, 1, 1)),
		laid(8, lines(lineOf(box(0, 5, 10, 8), 2, 8)), box(0, 5, 4, 7), box(4, 5, 8, 8), box(7, 8, 10, 17), box(0, 8, 1, 9)))
	lays(t, space.New(), ten(), 5, items(atom(4, 0), float(api.Right, 7, 2), float(api.Right, 7, 2)),
		laid(5, lines(lineOf(box(0, 5, 10, 5), 1, 4)), box(0, 5, 4, 5), box(3, 5, 10, 7), box(3, 7, 10, 9)))
}

// An atom that doesn't fit any more, as a float went beside its line, or as one of before is beside it alone.
func TestAtomThatDoesNotFit(t *testing.T) {
	lays(t, space.New(), ten(), 0, items(atom(5, 1), float(api.Right, 3, 3), atom(3, 2), float(api.Left, 1, 1), atom(3, 1)),
		laid(3, lines(lineOf(box(0, 0, 7, 1), 1, 5), lineOf(box(1, 1, 7, 3), 2, 6)),
			box(0, 0, 5, 1), box(7, 0, 10, 3), box(1, 1, 4, 3), box(0, 1, 1, 2), box(4, 1, 7, 2)))
	lays(t, of(left(0, 3, 2, 5)), ten(), 0, items(atom(6, 1), atom(2, 3), float(api.Right, 1, 1), atom(1, 1)),
		laid(4, lines(lineOf(box(0, 0, 10, 1), 1, 6), lineOf(box(3, 1, 10, 4), 2, 3)),
			box(0, 0, 6, 1), box(3, 1, 5, 4), box(9, 4, 10, 5), box(5, 1, 6, 2)))
}

// An atom that is wider than the columns has a line of its own, below all floats; full ones wait beside it.
func TestAtomThatIsTooWide(t *testing.T) {
	lays(t, space.New(), ten(), 0,
		items(float(api.Left, 1, 2), atom(12, 1), float(api.Right, 1, 2), float(api.Left, 0, 1), atom(0, 1), atom(11, 0), atom(3, 1)),
		laid(6, lines(lineOf(box(0, 2, 10, 3), 1, 12), lineOf(box(0, 3, 9, 4), 1, 0), lineOf(box(0, 5, 10, 5), 1, 11), lineOf(box(0, 5, 10, 6), 1, 3)),
			box(0, 0, 1, 2), box(0, 2, 12, 3), box(9, 3, 10, 5), box(0, 3, 0, 4), box(0, 3, 0, 4), box(0, 5, 11, 5), box(0, 5, 3, 6)))
	// between floats that don't reach into the columns
	lays(t, of(left(-9, 0, 0, 9), right(10, 12, 0, 9)), ten(), 0, items(atom(11, 2), float(api.Left, -1, 3), atom(2, 1)),
		laid(3, lines(lineOf(box(0, 0, 10, 2), 1, 11), lineOf(box(0, 2, 10, 3), 1, 2)), box(0, 0, 11, 2), box(0, 0, -1, 3), box(0, 2, 2, 3)))
}

// Lines and atoms of no Width and no Height.
func TestNoWidthAndNoHeight(t *testing.T) {
	lays(t, space.New(), ten(), 0, items(atom(0, 0), atom(0, 3), float(api.Left, 10, 1), atom(0, 1)),
		laid(3, lines(lineOf(box(10, 0, 10, 3), 3, 0)), box(10, 0, 10, 0), box(10, 0, 10, 3), box(0, 0, 10, 1), box(10, 0, 10, 1)))
	lays(t, space.New(), ten(), 0, items(atom(0, 0), float(api.Left, 11, 1), atom(0, 1)),
		laid(1, lines(lineOf(box(0, 0, 10, 1), 2, 0)), box(0, 0, 0, 0), box(0, 1, 11, 2), box(0, 0, 0, 1)))
	// a line that isn't high takes a row
	lays(t, space.New(), ten(), 4, items(atom(6, 0), float(api.Right, 4, 1), atom(0, 0), atom(1, 0), float(api.Left, 5, 1), float(api.Right, 1, 1)),
		laid(4, lines(lineOf(box(0, 4, 6, 4), 2, 6), lineOf(box(5, 4, 6, 4), 1, 1)),
			box(0, 4, 6, 4), box(6, 4, 10, 5), box(6, 4, 6, 4), box(5, 4, 6, 4), box(0, 4, 5, 5), box(5, 4, 6, 5)))
	// columns from and to alike
	lays(t, space.New(), span(4, 4), 0, items(atom(0, 2), float(api.Left, 1, 1), float(api.Left, 0, 1), atom(1, 1), float(api.Right, 0, 3)),
		laid(4, lines(lineOf(box(4, 0, 4, 2), 1, 0), lineOf(box(4, 3, 4, 4), 1, 1)),
			box(4, 0, 4, 2), box(4, 2, 5, 3), box(4, 3, 4, 4), box(4, 3, 5, 4), box(4, 3, 4, 6)))
}

// Sizes of 0 and of 2^31, of floats of -2^31, too; and the greatest and the least numbers of all else.
func TestFarNumbers(t *testing.T) {
	for _, y := range []int{-far, far} {
		lays(t, space.New(), span(-far, far), y,
			items(atom(big, big), float(api.Left, big, big), float(api.Right, big, -big), float(api.Right, big, big), atom(0, 0)),
			laid(y+big, lines(lineOf(box(big-far, y, far-big, y+big), 2, big)),
				box(big-far, y, 2*big-far, y+big), box(-far, y, big-far, y+big), box(far-big, y, far, y-big),
				box(far-big, y, far, y+big), box(2*big-far, y, 2*big-far, y)))
		lays(t, space.New(), span(far, far), y,
			items(float(api.Right, big, big), atom(big, big), float(api.Left, big, big), float(api.Left, -big, big)),
			laid(y+2*big, lines(lineOf(box(far, y+big, far, y+2*big), 1, big)),
				box(far-big, y, far, y+big), box(far, y+big, far+big, y+2*big),
				box(far, y+2*big, far+big, y+3*big), box(far+big, y+2*big, far, y+3*big)))
	}
	before := []space.Float{left(-far, far, -far, far), right(-far, far, far-1, far)}
	lays(t, of(before...), span(-far, far), -far,
		items(clears(api.Left, api.Both, big, 1), float(api.Right, -big, big), atom(1, big)),
		laid(far+big, lines(lineOf(box(big-far, far, far, far+big), 1, 1)),
			box(-far, far, big-far, far+1), box(far+big, far, far, far+big), box(big-far, far, big-far+1, far+big)))
	lays(t, of(before...), span(-far, -far), far,
		items(atom(1, 1), clears(api.Right, api.Right, 0, 0), float(api.Right, big, 0)),
		laid(far+1, lines(lineOf(box(-far, far, -far, far+1), 1, 1)),
			box(-far, far, 1-far, far+1), box(-far, far, -far, far), box(-far-big, far, -far, far)))
}

// As many atoms of the greatest sizes as may be added, in one line; and in a line each, with a float between any two.
func TestFarLines(t *testing.T) {
	const n = api.MaxBoxes
	got := text.Lay(space.New(), span(-far, 0), far, slices.Repeat(items(atom(big, big)), n))
	line := lineOf(box(-far, far, 0, far+big), n, far)
	if !slices.Equal(got.Lines, lines(line)) || got.Boxes[n-1] != box(-big, far, 0, far+big) || got.Bottom != far+big {
		t.Error(got.Lines, got.Boxes[n-1], got.Bottom)
	}
	got = text.Lay(space.New(), span(0, big), far, slices.Repeat(items(atom(big, big), float(api.Left, big, big)), n))
	for i := range n {
		y := far + i*2*big
		if got.Boxes[2*i] != box(0, y, big, y+big) || got.Boxes[2*i+1] != box(0, y+big, big, y+2*big) {
			t.Fatal(i, got.Boxes[2*i:2*i+2])
		}
	}
	if len(got.Boxes) != 2*n || len(got.Lines) != n || got.Bottom != far+(2*n-1)*big {
		t.Error(len(got.Boxes), len(got.Lines), got.Bottom)
	}
}

// An atom is one whatever its Clear says: it clears nothing.
func TestAtomClearsNothing(t *testing.T) {
	for clear := api.None; clear <= api.Both; clear++ {
		lays(t, of(left(0, 3, 0, 9), right(9, 10, 0, 9)), ten(), 1,
			items(clears(api.None, clear, 2, 1), clears(api.None, clear, 4, 1), clears(api.None, clear, 1, 1)),
			laid(3, lines(lineOf(box(3, 1, 9, 2), 2, 6), lineOf(box(3, 2, 9, 3), 1, 1)),
				box(3, 1, 5, 2), box(5, 1, 9, 2), box(3, 2, 4, 3)))
	}
}

// K5: what is answered is new memory, of which a later call knows nothing.
func TestLayAnswersNewMemory(t *testing.T) {
	l := items(atom(4, 1), float(api.Left, 3, 1), float(api.Left, 9, 1), atom(4, 1))
	want := laid(3, lines(lineOf(box(3, 0, 10, 1), 1, 4), lineOf(box(0, 2, 10, 3), 1, 4)),
		box(3, 0, 7, 1), box(0, 0, 3, 1), box(0, 1, 9, 2), box(0, 2, 4, 3))
	s := space.New()
	first := text.Lay(s, ten(), 0, l)
	again := text.Lay(space.New(), ten(), 0, l)
	clear(first.Boxes)
	clear(first.Lines)
	if !same(again, want) {
		t.Errorf("%v, not %v", again, want)
	}
	clear(l)
	s.Put(api.Left, box(0, 0, 9, 9))
	if !same(again, want) {
		t.Errorf("%v, not %v", again, want)
	}
}

// K6: two spaces have nothing to do with each other; what is laid in one of them, below or beside, has its floats.
func TestSpacesStandApart(t *testing.T) {
	l := items(float(api.Left, 3, 4), atom(4, 1), float(api.Left, 4, 2))
	s, other := space.New(), space.New()
	first := laid(1, lines(lineOf(box(3, 0, 10, 1), 1, 4)), box(0, 0, 3, 4), box(3, 0, 7, 1), box(3, 1, 7, 3))
	lays(t, s, ten(), 0, l, first)
	lays(t, other, ten(), 0, l, first)
	lays(t, s, ten(), 1, l,
		laid(6, lines(lineOf(box(4, 5, 10, 6), 1, 4)), box(7, 1, 10, 5), box(4, 5, 8, 6), box(0, 5, 4, 7)))
	lays(t, other, ten(), 0, items(atom(3, 1)), laid(1, lines(lineOf(box(3, 0, 10, 1), 1, 3)), box(3, 0, 6, 1)))
}

// As many items as there may be boxes: with floats beside each line and below it, and with all floats below one line.
func TestAsManyAsBoxes(t *testing.T) {
	const n = api.MaxBoxes
	got := text.Lay(space.New(), ten(), 0,
		slices.Repeat(items(atom(4, 1), float(api.Left, 3, 1), atom(3, 1), float(api.Right, 7, 1)), n/4))
	for i := range n / 4 {
		y := 2 * i
		want := []api.Rect{box(3, y, 7, y+1), box(0, y, 3, y+1), box(7, y, 10, y+1), box(3, y+1, 10, y+2)}
		if !slices.Equal(got.Boxes[4*i:4*i+4], want) || got.Lines[i] != lineOf(box(3, y, 10, y+1), 2, 7) {
			t.Fatal(i, got.Boxes[4*i:4*i+4], got.Lines[i])
		}
	}
	if len(got.Boxes) != n || len(got.Lines) != n/4 || got.Bottom != n/2-1 {
		t.Error(len(got.Boxes), len(got.Lines), got.Bottom)
	}
	got = text.Lay(space.New(), ten(), 0, append(items(atom(6, 1)), slices.Repeat(items(float(api.Left, 5, 1)), n)...))
	for i, b := range got.Boxes[1:] {
		if x, y := i%2*5, i/2+1; b != box(x, y, x+5, y+1) {
			t.Fatal(i, b)
		}
	}
	if !slices.Equal(got.Lines, lines(lineOf(box(0, 0, 10, 1), 1, 6))) || len(got.Boxes) != n+1 || got.Bottom != 1 {
		t.Error(got.Lines, len(got.Boxes), got.Bottom)
	}
}

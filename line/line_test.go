package line_test

import (
	"slices"
	"testing"

	"runaround/api"
	"runaround/line"
	"runaround/place"
	"runaround/rect"
	"runaround/space"
)

// big is the greatest number of a size, far the greatest one of all else, -far the least.
const (
	big = 1 << 31
	far = 1 << 47
)

// left gives a left float in some columns and rows.
func left(from, to, top, bottom int) space.Float {
	return space.Float{Side: api.Left, Box: box(from, top, to, bottom)}
}

// right gives a right float in some columns and rows.
func right(from, to, top, bottom int) space.Float {
	return space.Float{Side: api.Right, Box: box(from, top, to, bottom)}
}

// of gives the space of floats, put into it in order.
func of(floats ...space.Float) *space.Space {
	s := space.New()
	for _, f := range floats {
		s.Put(f.Side, f.Box)
	}
	return s
}

// box gives a rectangle.
func box(left, top, right, bottom int) api.Rect {
	return api.Rect{Left: left, Top: top, Right: right, Bottom: bottom}
}

// span gives some columns.
func span(from, to int) rect.Span { return rect.Span{From: from, To: to} }

// ten is the columns of most tests.
func ten() rect.Span { return span(0, 10) }

// z gives a size.
func z(width, height int) line.Size { return line.Size{Width: width, Height: height} }

// lineOf gives a line.
func lineOf(b api.Rect, atoms, wide int) line.Line {
	return line.Line{Box: b, Atoms: atoms, Wide: wide}
}

// wants give a left and a right want of the columns of most tests, which clear nothing, and may stand from a height on.
func wants(width, height, y int) (place.Want, place.Want) {
	w := place.Want{Side: api.Left, Columns: ten(), Width: width, Height: height, From: y}
	r := w
	r.Side = api.Right
	return w, r
}

// isNow tells it if a builder makes another line than that.
func isNow(t *testing.T, b *line.Builder, want line.Line) {
	t.Helper()
	if got, ok := b.Now(); got != want || !ok {
		t.Errorf("now %v, %t, not %v", got, ok, want)
	}
}

// isNone tells it if a builder makes a line, or may begin the next one elsewhere.
func isNone(t *testing.T, b *line.Builder, y int) {
	t.Helper()
	if got, ok := b.Now(); got != (line.Line{}) || ok {
		t.Errorf("now %v, %t, not none", got, ok)
	}
	if b.Y() != y {
		t.Errorf("Y %d, not %d", b.Y(), y)
	}
}

// adds tells it if an atom doesn't fit, or the line is another one with it.
func adds(t *testing.T, b *line.Builder, size line.Size, want line.Line) {
	t.Helper()
	if !b.Add(size) {
		t.Errorf("%v doesn't fit", size)
	}
	isNow(t, b, want)
}

// addsNot tells it if an atom fits, or if asking changes the line, or where the next one may begin.
func addsNot(t *testing.T, b *line.Builder, size line.Size) {
	t.Helper()
	line, _ := b.Now()
	y := b.Y()
	if b.Add(size) {
		t.Errorf("%v fits", size)
	}
	isNow(t, b, line)
	if b.Y() != y {
		t.Errorf("Y %d, not %d", b.Y(), y)
	}
}

// begins tells it if a line doesn't begin with an atom in that box.
func begins(t *testing.T, s *space.Space, columns rect.Span, y int, size line.Size, want api.Rect) {
	t.Helper()
	b := line.New(s, columns, y)
	adds(t, b, size, lineOf(want, 1, size.Width))
	if b.Y() != y {
		t.Errorf("Y %d, not %d", b.Y(), y)
	}
}

// floats tells it if a float doesn't go beside the line there, or isn't put there, or the line is another one then.
func floats(t *testing.T, s *space.Space, b *line.Builder, w place.Want, want api.Rect, now line.Line) {
	t.Helper()
	put := append(s.Floats(), space.Float{Side: w.Side, Box: want})
	if got, ok := b.Float(w); got != want || !ok {
		t.Errorf("%+v: %v, %t, not %v", w, got, ok, want)
	}
	if got := s.Floats(); !slices.Equal(got, put) {
		t.Errorf("%+v: %v, not %v", w, got, put)
	}
	isNow(t, b, now)
}

// floatsNot tells it if a float goes beside the line, or anything is changed by asking.
func floatsNot(t *testing.T, s *space.Space, b *line.Builder, w place.Want) {
	t.Helper()
	put, shelves := s.Floats(), s.Shelves()
	line, made := b.Now()
	y := b.Y()
	if got, ok := b.Float(w); got != (api.Rect{}) || ok {
		t.Errorf("%+v: %v, %t", w, got, ok)
	}
	if !slices.Equal(s.Floats(), put) || !slices.Equal(s.Shelves(), shelves) {
		t.Errorf("%+v: %v, not %v", w, s.Floats(), put)
	}
	if got, ok := b.Now(); got != line || ok != made || b.Y() != y {
		t.Errorf("%+v: now %v, %t, not %v, %t; Y %d, not %d", w, got, ok, line, made, b.Y(), y)
	}
}

// ends tells it if another line is ended, or there still is one then, or the next one may not begin at its bottom.
func ends(t *testing.T, b *line.Builder, want line.Line) {
	t.Helper()
	if got, ok := b.End(); got != want || !ok {
		t.Errorf("ended %v, %t, not %v", got, ok, want)
	}
	isNone(t, b, want.Box.Bottom)
}

// endsNot tells it if there is a line to be ended.
func endsNot(t *testing.T, b *line.Builder) {
	t.Helper()
	y := b.Y()
	if got, ok := b.End(); got != (line.Line{}) || ok {
		t.Errorf("ended %v, %t", got, ok)
	}
	isNone(t, b, y)
}

// makes tells it if there are other lines of atoms, or if the space is changed.
func makes(t *testing.T, s *space.Space, columns rect.Span, y int, l []line.Size, want ...line.Line) {
	t.Helper()
	put, shelves, atoms := s.Floats(), s.Shelves(), slices.Clone(l)
	if got := line.All(s, columns, y, l); !slices.Equal(got, want) {
		t.Errorf("%v from %d on, %v: %v, not %v", columns, y, l, got, want)
	}
	if !slices.Equal(s.Floats(), put) || !slices.Equal(s.Shelves(), shelves) || !slices.Equal(l, atoms) {
		t.Errorf("%v, %v, %v, not %v, %v, %v", s.Floats(), s.Shelves(), l, put, shelves, atoms)
	}
}

// P13.4: the chapter's example.
func TestExample(t *testing.T) {
	makes(t, space.New(), ten(), 0, []line.Size{z(4, 1), z(4, 1), z(4, 1)},
		lineOf(box(0, 0, 10, 1), 2, 8), lineOf(box(0, 1, 10, 2), 1, 4))
}

// The document's seventh example of the whole: a line beside a float begins at its right edge, and has fewer atoms.
func TestExampleOfTheWhole(t *testing.T) {
	makes(t, of(left(0, 5, 0, 1)), ten(), 0, []line.Size{z(4, 1), z(4, 1), z(4, 1)},
		lineOf(box(5, 0, 10, 1), 1, 4), lineOf(box(0, 1, 10, 2), 2, 8))
}

// P13.1: a builder without a line, with one, and behind its end.
func TestNewYAndNow(t *testing.T) {
	for _, y := range []int{-far, -7, 0, 3, far} {
		b := line.New(space.New(), ten(), y)
		isNone(t, b, y)
		endsNot(t, b)
		adds(t, b, z(4, 2), lineOf(box(0, y, 10, y+2), 1, 4))
		if b.Y() != y {
			t.Error(b.Y(), y)
		}
		ends(t, b, lineOf(box(0, y, 10, y+2), 1, 4))
		endsNot(t, b)
	}
}

// P13.1: while a line is made below all of a float, Y stays where it was, and goes below the line at its end.
func TestYOfALineThatBeginsLower(t *testing.T) {
	b := line.New(of(left(0, 9, 2, 6)), ten(), 3)
	adds(t, b, z(4, 2), lineOf(box(0, 6, 10, 8), 1, 4))
	if b.Y() != 3 {
		t.Error(b.Y())
	}
	ends(t, b, lineOf(box(0, 6, 10, 8), 1, 4))
	adds(t, b, z(1, 5), lineOf(box(0, 8, 10, 13), 1, 1))
	if b.Y() != 8 {
		t.Error(b.Y())
	}
	ends(t, b, lineOf(box(0, 8, 10, 13), 1, 1))
}

// P13.2: where nothing floats, atoms that fill the columns just so, and one that is one too wide.
func TestAddWhereNothingFloats(t *testing.T) {
	b := line.New(space.New(), span(-3, 7), 5)
	adds(t, b, z(4, 1), lineOf(box(-3, 5, 7, 6), 1, 4))
	adds(t, b, z(3, 4), lineOf(box(-3, 5, 7, 9), 2, 7))
	addsNot(t, b, z(4, 1))
	addsNot(t, b, z(4, 9))
	addsNot(t, b, z(90, 0))
	adds(t, b, z(3, 2), lineOf(box(-3, 5, 7, 9), 3, 10))
	addsNot(t, b, z(1, 0))
	ends(t, b, lineOf(box(-3, 5, 7, 9), 3, 10))
	adds(t, b, z(10, 1), lineOf(box(-3, 9, 7, 10), 1, 10))
	addsNot(t, b, z(1, 1))
}

// P13.2: atoms of a Width or a Height of 0.
func TestAddOfNoWidthOrHeight(t *testing.T) {
	b := line.New(space.New(), ten(), 5)
	adds(t, b, z(0, 0), lineOf(box(0, 5, 10, 5), 1, 0))
	adds(t, b, z(10, 0), lineOf(box(0, 5, 10, 5), 2, 10))
	adds(t, b, z(0, 0), lineOf(box(0, 5, 10, 5), 3, 10))
	addsNot(t, b, z(1, 0))
	ends(t, b, lineOf(box(0, 5, 10, 5), 3, 10))
	adds(t, b, z(1, 0), lineOf(box(0, 5, 10, 5), 1, 1))
	adds(t, b, z(0, 3), lineOf(box(0, 5, 10, 8), 2, 1))
	ends(t, b, lineOf(box(0, 5, 10, 8), 2, 1))
}

// P13.2: a line that isn't high takes a row, in which a float may stand.
func TestAddOfNoHeightBesideFloats(t *testing.T) {
	s := of(left(0, 4, 5, 6))
	begins(t, s, ten(), 5, z(6, 0), box(4, 5, 10, 5))
	begins(t, s, ten(), 5, z(7, 0), box(0, 6, 10, 6))
	begins(t, s, ten(), 4, z(7, 0), box(0, 4, 10, 4))
	begins(t, s, ten(), 4, z(7, 1), box(0, 4, 10, 5))
	b := line.New(s, ten(), 5)
	adds(t, b, z(2, 0), lineOf(box(4, 5, 10, 5), 1, 2))
	adds(t, b, z(4, 0), lineOf(box(4, 5, 10, 5), 2, 6))
	addsNot(t, b, z(1, 0))
}

// P13.2: columns from and to alike: atoms that aren't wide fit, and any one begins a line where no float reaches in.
func TestAddOfNoColumns(t *testing.T) {
	b := line.New(space.New(), span(4, 4), 0)
	adds(t, b, z(0, 2), lineOf(box(4, 0, 4, 2), 1, 0))
	adds(t, b, z(0, 3), lineOf(box(4, 0, 4, 3), 2, 0))
	addsNot(t, b, z(1, 1))
	ends(t, b, lineOf(box(4, 0, 4, 3), 2, 0))
	adds(t, b, z(1, 1), lineOf(box(4, 3, 4, 4), 1, 1))
	addsNot(t, b, z(0, 1))
	for _, width := range []int{0, 1, 20} {
		begins(t, of(left(0, 4, 0, 9)), span(4, 4), 2, z(width, 1), box(4, 2, 4, 3))
		begins(t, of(left(0, 5, 0, 9)), span(4, 4), 2, z(width, 1), box(4, 9, 4, 10))
		begins(t, of(right(4, 8, 0, 9)), span(4, 4), 2, z(width, 1), box(4, 2, 4, 3))
		begins(t, of(right(3, 8, 0, 9)), span(4, 4), 2, z(width, 1), box(4, 9, 4, 10))
	}
}

// P13.2: a line begins at the builder's y, with just as much room as its first atom; with one less where a float
// ends, or the next one begins.
func TestWhereALineBegins(t *testing.T) {
	s := of(left(0, 3, 0, 9), right(8, 10, 0, 7), right(6, 8, 0, 5))
	for _, x := range []struct {
		y    int
		size line.Size
		want api.Rect
	}{
		{0, z(3, 1), box(3, 0, 6, 1)}, // at the builder's y
		{4, z(3, 1), box(3, 4, 6, 5)}, // there, within a shelf
		{0, z(4, 1), box(3, 5, 8, 6)}, // at a Top below it
		{0, z(5, 1), box(3, 5, 8, 6)},
		{4, z(5, 9), box(3, 5, 8, 14)},
		{0, z(6, 1), box(3, 7, 10, 8)},
		{6, z(7, 1), box(3, 7, 10, 8)},
		{0, z(8, 1), box(0, 9, 10, 10)}, // below all floats
		{8, z(10, 2), box(0, 9, 10, 11)},
		{9, z(10, 2), box(0, 9, 10, 11)},
		{40, z(10, 2), box(0, 40, 10, 42)},
		{-5, z(10, 5), box(0, -5, 10, 0)}, // above all floats
		{-5, z(10, 6), box(0, 9, 10, 15)},
		{-5, z(3, 6), box(3, -5, 6, 1)},
	} {
		begins(t, s, ten(), x.y, x.size, x.want)
	}
}

// P13.2: room in the first row isn't enough, where a float begins beside a lower one.
func TestWhereALineBeginsAboveAFloat(t *testing.T) {
	s := of(left(0, 3, 2, 5))
	begins(t, s, ten(), 0, z(8, 2), box(0, 0, 10, 2))
	begins(t, s, ten(), 0, z(8, 3), box(0, 5, 10, 8))
	begins(t, s, ten(), 0, z(7, 3), box(3, 0, 10, 3))
	s = of(right(6, 10, 2, 5), left(0, 3, 9, 10))
	begins(t, s, ten(), 0, z(7, 2), box(0, 0, 10, 2))
	begins(t, s, ten(), 0, z(7, 3), box(0, 5, 10, 8))
	begins(t, s, ten(), 0, z(7, 5), box(3, 5, 10, 10))
	begins(t, s, ten(), 0, z(8, 4), box(0, 5, 10, 9))
	begins(t, s, ten(), 0, z(8, 5), box(0, 10, 10, 15))
	begins(t, s, ten(), 0, z(3, 90), box(3, 0, 6, 90))
}

// P13.2: an atom of no Width begins nowhere where floats are across all of the columns.
func TestWhereAnAtomOfNoWidthBegins(t *testing.T) {
	begins(t, of(left(0, 10, 0, 9)), ten(), 0, z(0, 1), box(10, 0, 10, 1))
	begins(t, of(left(0, 11, 0, 9)), ten(), 0, z(0, 1), box(0, 9, 10, 10))
	begins(t, of(left(0, 6, 0, 9), right(6, 9, 0, 9)), ten(), 0, z(0, 1), box(6, 0, 6, 1))
	begins(t, of(left(0, 6, 0, 9), right(5, 9, 0, 9)), ten(), 0, z(0, 1), box(0, 9, 10, 10))
}

// P13.2: a first atom that is wider than the columns begins a line where no float reaches into them.
func TestAFirstAtomThatIsTooWide(t *testing.T) {
	columns := span(5, 15)
	for _, x := range []struct {
		float space.Float
		top   int
	}{
		{left(0, 5, 0, 9), 2},    // just up to their From
		{left(0, 6, 0, 9), 9},    // over it
		{left(6, 7, 0, 9), 9},    // within them
		{left(20, 30, 0, 9), 9},  // beyond them, but all left of it is a left float's
		{left(-9, -3, 0, 9), 2},  // far off
		{right(15, 20, 0, 9), 2}, // just from their To on
		{right(14, 20, 0, 9), 9}, // over it
		{right(8, 9, 0, 9), 9},   // within them
		{right(0, 4, 0, 9), 9},   // ahead of them, but all right of it is a right float's
		{right(30, 35, 0, 9), 2}, // far off
		{left(0, 6, 0, 2), 2},    // above it
		{left(0, 6, 4, 9), 2},    // below its lowest row
		{left(0, 6, 3, 9), 9},    // from that one on
		{left(0, 6, 3, 3), 2},    // without a point
		{right(9, 8, 0, 9), 2},   // without a point
	} {
		for _, width := range []int{11, 12, 90, big} {
			begins(t, of(x.float), columns, 2, z(width, 2), box(5, x.top, 15, x.top+2))
		}
	}
	// as wide as the columns it needs all of them, and begins at the same places
	begins(t, of(left(0, 5, 0, 9)), columns, 2, z(10, 2), box(5, 2, 15, 4))
	begins(t, of(left(0, 6, 0, 9)), columns, 2, z(10, 2), box(5, 9, 15, 11))
	begins(t, of(left(0, 5, 0, 9), right(14, 20, 0, 7)), columns, 2, z(11, 2), box(5, 7, 15, 9))
	begins(t, space.New(), columns, 2, z(11, 2), box(5, 2, 15, 4))
}

// P13.2: behind an atom that is wider than the columns no other one fits, not even one of no Width.
func TestBehindAnAtomThatIsTooWide(t *testing.T) {
	b := line.New(space.New(), ten(), 0)
	adds(t, b, z(11, 1), lineOf(box(0, 0, 10, 1), 1, 11))
	addsNot(t, b, z(0, 0))
	addsNot(t, b, z(0, 3))
	addsNot(t, b, z(1, 1))
	ends(t, b, lineOf(box(0, 0, 10, 1), 1, 11))
}

// P13.2: further atoms beside floats of one side, and of both.
func TestFurtherAtomsBesideFloats(t *testing.T) {
	for _, x := range []struct {
		s        *space.Space
		from, to int
	}{
		{of(left(0, 4, 0, 9)), 4, 10},
		{of(right(6, 10, 0, 9)), 0, 6},
		{of(left(0, 2, 0, 9), right(8, 10, 0, 9)), 2, 8},
		{of(left(0, 1, 0, 9), left(1, 2, 0, 9), right(8, 12, 0, 9), right(9, 10, 0, 9)), 2, 8},
	} {
		b := line.New(x.s, ten(), 3)
		adds(t, b, z(3, 2), lineOf(box(x.from, 3, x.to, 5), 1, 3))
		addsNot(t, b, z(4, 1))
		adds(t, b, z(2, 1), lineOf(box(x.from, 3, x.to, 5), 2, 5))
		addsNot(t, b, z(2, 1))
		adds(t, b, z(1, 4), lineOf(box(x.from, 3, x.to, 7), 3, 6))
		addsNot(t, b, z(1, 1))
		adds(t, b, z(0, 6), lineOf(box(x.from, 3, x.to, 9), 4, 6))
		adds(t, b, z(0, 7), lineOf(box(x.from, 3, x.to, 10), 5, 6))
		ends(t, b, lineOf(box(x.from, 3, x.to, 10), 5, 6))
		adds(t, b, z(9, 1), lineOf(box(0, 10, 10, 11), 1, 9))
	}
}

// P13.2: an atom that fits by its Width, but makes the line so high that it comes beside a float that begins below.
func TestAFurtherAtomThatIsHigher(t *testing.T) {
	for _, x := range []struct {
		s        *space.Space
		from, to int
	}{
		{of(left(0, 3, 2, 5)), 3, 10},
		{of(right(7, 10, 2, 5)), 0, 7},
	} {
		b := line.New(x.s, ten(), 0)
		adds(t, b, z(6, 1), lineOf(box(0, 0, 10, 1), 1, 6))
		addsNot(t, b, z(2, 3)) // 2 of 4, but 1 of 7 less 6
		adds(t, b, z(2, 2), lineOf(box(0, 0, 10, 2), 2, 8))
		addsNot(t, b, z(0, 3)) // not even one of no Width: the line itself has no room there
		adds(t, b, z(2, 1), lineOf(box(0, 0, 10, 2), 3, 10))
		ends(t, b, lineOf(box(0, 0, 10, 2), 3, 10))

		b = line.New(x.s, ten(), 0)
		adds(t, b, z(6, 1), lineOf(box(0, 0, 10, 1), 1, 6))
		adds(t, b, z(1, 3), lineOf(box(x.from, 0, x.to, 3), 2, 7))
		addsNot(t, b, z(1, 1)) // low ones have no more room then
		adds(t, b, z(0, 1), lineOf(box(x.from, 0, x.to, 3), 3, 7))
	}
}

// P13.3: without a line there is nothing beside which a float may go.
func TestFloatWithoutALine(t *testing.T) {
	s := space.New()
	b := line.New(s, ten(), 2)
	w, r := wants(3, 4, 2)
	floatsNot(t, s, b, w)
	floatsNot(t, s, b, r)
	b.Add(z(1, 1))
	b.End()
	w.From, w.Height = 3, 0
	floatsNot(t, s, b, w)
	isNone(t, b, 3)
}

// P13.3: a float at the line's top that leaves just as much room as its atoms are wide, and one that leaves one less.
func TestFloatBesideTheLine(t *testing.T) {
	for width := range 8 {
		s := space.New()
		b := line.New(s, ten(), 2)
		b.Add(z(6, 2))
		w, r := wants(width, 4, 2)
		if width > 4 {
			floatsNot(t, s, b, w)
			floatsNot(t, s, b, r)
			continue
		}
		floats(t, s, b, w, box(0, 2, width, 6), lineOf(box(width, 2, 10, 4), 1, 6))
		s = space.New()
		b = line.New(s, ten(), 2)
		b.Add(z(6, 2))
		floats(t, s, b, r, box(10-width, 2, 10, 6), lineOf(box(0, 2, 10-width, 4), 1, 6))
	}
}

// P13.3: floats of both sides, one after the other, and atoms that fit into what these leave.
func TestFloatsAndAtomsInTurn(t *testing.T) {
	s := space.New()
	b := line.New(s, ten(), 2)
	adds(t, b, z(2, 3), lineOf(box(0, 2, 10, 5), 1, 2))
	w, r := wants(2, 4, 2)
	floats(t, s, b, w, box(0, 2, 2, 6), lineOf(box(2, 2, 10, 5), 1, 2))
	floats(t, s, b, r, box(8, 2, 10, 6), lineOf(box(2, 2, 8, 5), 1, 2))
	addsNot(t, b, z(5, 1))
	adds(t, b, z(1, 1), lineOf(box(2, 2, 8, 5), 2, 3))
	floats(t, s, b, w, box(2, 2, 4, 6), lineOf(box(4, 2, 8, 5), 2, 3))
	floatsNot(t, s, b, w)
	floatsNot(t, s, b, r)
	w.Width, r.Width = 1, 1
	floats(t, s, b, r, box(7, 2, 8, 6), lineOf(box(4, 2, 7, 5), 2, 3))
	floatsNot(t, s, b, w)
	floatsNot(t, s, b, r)
	addsNot(t, b, z(1, 1))
	adds(t, b, z(0, 5), lineOf(box(4, 2, 7, 7), 3, 3))
	ends(t, b, lineOf(box(4, 2, 7, 7), 3, 3))
	floatsNot(t, s, b, w)
}

// P13.3: a float may be higher than the line, or less high: the line is less wide in all of its rows.
func TestFloatOfAnotherHeightThanTheLine(t *testing.T) {
	for _, height := range []int{1, 2, 5, 6, 90, big} {
		s := of(right(7, 10, 0, 2))
		b := line.New(s, ten(), 0)
		adds(t, b, z(4, 5), lineOf(box(0, 0, 7, 5), 1, 4))
		w, r := wants(4, height, 0)
		floatsNot(t, s, b, w)
		w.Width, r.Width = 2, 1
		floats(t, s, b, w, box(0, 0, 2, height), lineOf(box(2, 0, 7, 5), 1, 4))
		floats(t, s, b, r, box(6, 0, 7, height), lineOf(box(2, 0, 6, 5), 1, 4))
		floatsNot(t, s, b, r)
	}
}

// P13.3: a float that is placed below the line's top: where there is no room, where an earlier one stands, or what it
// clears.
func TestFloatThatIsPlacedLower(t *testing.T) {
	s := of(left(0, 5, 0, 3))
	b := line.New(s, ten(), 2)
	adds(t, b, z(1, 4), lineOf(box(5, 2, 10, 6), 1, 1))
	w, r := wants(6, 1, 2)
	floatsNot(t, s, b, w) // at 3
	floatsNot(t, s, b, r)
	w.Width, w.Clear, r.Width, r.Clear = 1, api.Left, 1, api.Both
	floatsNot(t, s, b, w)
	floatsNot(t, s, b, r)
	w.Clear, r.Clear = api.Right, api.None
	w.From, r.From = 3, 3
	floatsNot(t, s, b, w)
	floatsNot(t, s, b, r)
	w.From, r.From = 2, 2
	floats(t, s, b, w, box(5, 2, 6, 3), lineOf(box(6, 2, 10, 6), 1, 1))
	s.Put(api.Right, box(9, 4, 10, 5))
	floatsNot(t, s, b, w)
	floatsNot(t, s, b, r)
}

// P13.3: of floats that aren't full one goes beside any line, if it is placed at its top, and takes nothing from it.
func TestFloatThatIsNotFull(t *testing.T) {
	for _, height := range []int{-big, -4, 0} {
		s := space.New()
		b := line.New(s, ten(), 2)
		b.Add(z(9, 2))
		full := lineOf(box(0, 2, 10, 4), 1, 9)
		w, r := wants(9, height, 2)
		floats(t, s, b, w, box(0, 2, 9, 2+height), full)
		floats(t, s, b, r, box(1, 2, 10, 2+height), full)
		w.Width, r.Width = 15, 15
		floats(t, s, b, w, box(0, 2, 15, 2+height), full)
		floats(t, s, b, r, box(-5, 2, 10, 2+height), full)
		w.From = 3
		floatsNot(t, s, b, w)
		adds(t, b, z(1, 1), lineOf(box(0, 2, 10, 4), 2, 10))
	}
	for _, width := range []int{-big, -4, 0} {
		s := space.New()
		b := line.New(s, ten(), 2)
		b.Add(z(12, 2))
		full := lineOf(box(0, 2, 10, 4), 1, 12)
		w, r := wants(width, 3, 2)
		floats(t, s, b, w, box(0, 2, width, 5), full)
		floats(t, s, b, r, box(10-width, 2, 10, 5), full)
		w.Clear = api.Left
		floatsNot(t, s, b, w)
	}
}

// P13.3: beside atoms that are wider than the columns no full float goes, not even one that is beyond these.
func TestFloatBesideAnAtomThatIsTooWide(t *testing.T) {
	s := space.New()
	b := line.New(s, ten(), 2)
	b.Add(z(12, 2))
	for _, width := range []int{1, 9, 15} {
		w, r := wants(width, 3, 2)
		floatsNot(t, s, b, w)
		floatsNot(t, s, b, r)
		w.Columns, r.Columns = span(-40, 10), span(0, 50)
		floatsNot(t, s, b, w)
		floatsNot(t, s, b, r)
	}
}

// P13.3: atoms that aren't wide need room of no length, but not of a length below 0.
func TestFloatBesideAtomsOfNoWidth(t *testing.T) {
	for _, width := range []int{9, 10, 11} {
		s := space.New()
		b := line.New(s, ten(), 2)
		b.Add(z(0, 2))
		w, r := wants(width, 1, 2)
		if width > 10 {
			floatsNot(t, s, b, w)
			floatsNot(t, s, b, r)
			continue
		}
		floats(t, s, b, w, box(0, 2, width, 3), lineOf(box(width, 2, 10, 4), 1, 0))
		floatsNot(t, s, b, r)
	}
}

// P13.3: a float of other columns than the line's takes of the line what it reaches over, if anything.
func TestFloatOfOtherColumns(t *testing.T) {
	s := space.New()
	b := line.New(s, ten(), 2)
	b.Add(z(7, 2))
	w, r := wants(2, 3, 2)
	w.Columns, r.Columns = span(-6, 4), span(6, 14)
	floats(t, s, b, w, box(-6, 2, -4, 5), lineOf(box(0, 2, 10, 4), 1, 7))
	floats(t, s, b, r, box(12, 2, 14, 5), lineOf(box(0, 2, 10, 4), 1, 7))
	w.Width, r.Width = 5, 3
	floats(t, s, b, w, box(-4, 2, 1, 5), lineOf(box(1, 2, 10, 4), 1, 7))
	floatsNot(t, s, b, w)
	floats(t, s, b, r, box(9, 2, 12, 5), lineOf(box(1, 2, 9, 4), 1, 7))
	floatsNot(t, s, b, r)
}

// P13.1: a line's columns are what is free when it is asked for, whoever puts floats into its space.
func TestFloatsThatOthersPut(t *testing.T) {
	s := space.New()
	b := line.New(s, ten(), 0)
	adds(t, b, z(4, 3), lineOf(box(0, 0, 10, 3), 1, 4))
	s.Put(api.Left, box(0, 2, 3, 5))
	isNow(t, b, lineOf(box(3, 0, 10, 3), 1, 4))
	addsNot(t, b, z(4, 1))
	s.Put(api.Right, box(8, 3, 10, 4))
	isNow(t, b, lineOf(box(3, 0, 10, 3), 1, 4))
	addsNot(t, b, z(2, 4))
	adds(t, b, z(1, 4), lineOf(box(3, 0, 8, 4), 2, 5))
	s.Put(api.Left, box(0, 0, 4, 1))
	ends(t, b, lineOf(box(4, 0, 8, 4), 2, 5))
	s.Put(api.Left, box(0, 0, 9, 7))
	adds(t, b, z(2, 1), lineOf(box(0, 7, 10, 8), 1, 2))
}

// P13.3: End of the line as it is, of atoms and of floats, and where there is none.
func TestEnd(t *testing.T) {
	s := of(right(9, 10, 0, 90))
	b := line.New(s, ten(), 2)
	endsNot(t, b)
	b.Add(z(3, 1))
	b.Add(z(3, 5))
	w, _ := wants(2, 1, 2)
	b.Float(w)
	ends(t, b, lineOf(box(2, 2, 9, 7), 2, 6))
	endsNot(t, b)
	b.Add(z(0, 0))
	ends(t, b, lineOf(box(0, 7, 9, 7), 1, 0))
	endsNot(t, b)
}

// P13.4: no atoms, atoms that make one line, and many.
func TestAll(t *testing.T) {
	s := of(left(0, 3, 2, 5))
	makes(t, s, ten(), 0, nil)
	makes(t, s, ten(), 0, []line.Size{})
	makes(t, s, ten(), 1, []line.Size{z(0, 0)}, lineOf(box(0, 1, 10, 1), 1, 0))
	makes(t, s, ten(), 0, []line.Size{z(3, 1), z(7, 2), z(0, 1)}, lineOf(box(0, 0, 10, 2), 3, 10))
	makes(t, s, ten(), 5, []line.Size{z(10, 1), z(1, 0), z(9, 0), z(5, 2), z(5, 3), z(5, 1)},
		lineOf(box(0, 5, 10, 6), 1, 10), lineOf(box(0, 6, 10, 6), 2, 10),
		lineOf(box(0, 6, 10, 9), 2, 10), lineOf(box(0, 9, 10, 10), 1, 5))
}

// P13.4: atoms wider than the columns have lines of their own.
func TestAllOfAtomsThatAreTooWide(t *testing.T) {
	makes(t, space.New(), ten(), 0, []line.Size{z(12, 1), z(11, 2), z(3, 1), z(40, 0), z(0, 1), z(10, 1), z(0, 2)},
		lineOf(box(0, 0, 10, 1), 1, 12), lineOf(box(0, 1, 10, 3), 1, 11), lineOf(box(0, 3, 10, 4), 1, 3),
		lineOf(box(0, 4, 10, 4), 1, 40), lineOf(box(0, 4, 10, 6), 3, 10))
	makes(t, of(left(0, 3, 1, 4)), ten(), 0, []line.Size{z(12, 1), z(11, 2), z(3, 1)},
		lineOf(box(0, 0, 10, 1), 1, 12), lineOf(box(0, 4, 10, 6), 1, 11), lineOf(box(0, 6, 10, 7), 1, 3))
}

// P13.4: beside floats that end between the lines, lines get longer, and the next one may fit only there.
func TestAllBesideFloatsThatEnd(t *testing.T) {
	s := of(left(0, 5, 0, 2), right(8, 10, 0, 4))
	four := slices.Repeat([]line.Size{z(2, 1)}, 13)
	makes(t, s, ten(), 0, four, lineOf(box(5, 0, 8, 1), 1, 2), lineOf(box(5, 1, 8, 2), 1, 2),
		lineOf(box(0, 2, 8, 3), 4, 8), lineOf(box(0, 3, 8, 4), 4, 8), lineOf(box(0, 4, 10, 5), 3, 6))
	makes(t, s, ten(), 0, []line.Size{z(3, 1), z(4, 1), z(4, 1), z(9, 1), z(9, 1)},
		lineOf(box(5, 0, 8, 1), 1, 3), lineOf(box(0, 2, 8, 3), 2, 8),
		lineOf(box(0, 4, 10, 5), 1, 9), lineOf(box(0, 5, 10, 6), 1, 9))
	// an atom that doesn't fit there, as it is too high, begins below
	makes(t, of(left(0, 3, 2, 5)), ten(), 0, []line.Size{z(6, 1), z(2, 3), z(2, 1), z(8, 1)},
		lineOf(box(0, 0, 10, 1), 1, 6), lineOf(box(3, 1, 10, 4), 2, 4), lineOf(box(0, 5, 10, 6), 1, 8))
}

// P13.2 to P13.4: the greatest sizes, and the greatest and the least numbers.
func TestFarNumbers(t *testing.T) {
	s := space.New()
	begins(t, s, span(-far, far), -far, z(big, big), box(-far, -far, far, big-far))
	begins(t, s, span(far, far), far, z(big, big), box(far, far, far, far+big))
	begins(t, s, span(-far, -far), far, z(0, 0), box(-far, far, -far, far))
	many := slices.Repeat([]line.Size{z(big, big)}, api.MaxBoxes)
	makes(t, s, span(-far, 0), far, many, lineOf(box(-far, far, 0, far+big), api.MaxBoxes, far))
	lines := line.All(s, span(-far, -far), far, many)
	if len(lines) != api.MaxBoxes || lines[api.MaxBoxes-1] != lineOf(box(-far, 2*far-big, -far, 2*far), 1, big) {
		t.Error(len(lines), lines[len(lines)-1])
	}
	s = of(left(-far, far, -far, far))
	begins(t, s, span(-far, far), -far, z(0, 1), box(far, -far, far, 1-far))
	begins(t, s, span(-far, far), -far, z(1, 1), box(-far, far, far, far+1))
	begins(t, s, span(-far, far), -far, z(big, big), box(-far, far, far, far+big))
	s = of(right(-far, far, 0, far))
	begins(t, s, span(-far, far), -big, z(1, big), box(-far, -big, far, 0))
	begins(t, s, span(-far, far), 1-big, z(1, big), box(-far, far, far, far+big))
	begins(t, s, span(-far, far), far-1, z(0, big), box(-far, far-1, -far, far-1+big))
}

// P13.3: floats of the greatest and the least numbers.
func TestFarFloats(t *testing.T) {
	s := space.New()
	b := line.New(s, span(-far, far), -far)
	b.Add(z(big, big))
	w := place.Want{Side: api.Left, Columns: span(-far, far), Width: far, Height: far, From: -far}
	floats(t, s, b, w, box(-far, -far, 0, 0), lineOf(box(0, -far, far, big-far), 1, big))
	floatsNot(t, s, b, w)
	w.Side, w.Width = api.Right, far-big+1
	floatsNot(t, s, b, w)
	w.Width--
	floats(t, s, b, w, box(big, -far, far, 0), lineOf(box(0, -far, big, big-far), 1, big))
	w.Width, w.Height, w.From = -far, -far, far
	floatsNot(t, s, b, w)
	w.From = -far
	floats(t, s, b, w, box(big+far, -far, big, -2*far), lineOf(box(0, -far, big, big-far), 1, big))
	addsNot(t, b, z(1, 0))
	addsNot(t, b, z(big, big))
	adds(t, b, z(0, big), lineOf(box(0, -far, big, big-far), 2, big))
}

// K5: Now, Y and All change nothing of the space, nor of the builder.
func TestAskingChangesNothing(t *testing.T) {
	put := []space.Float{left(0, 3, 2, 9), right(8, 10, 4, 7), left(0, 5, 6, 2), right(7, 8, 20, 22)}
	s := of(put...)
	shelves := s.Shelves()
	b := line.New(s, ten(), 3)
	isNone(t, b, 3)
	adds(t, b, z(3, 4), lineOf(box(3, 3, 8, 7), 1, 3))
	for range 3 {
		isNow(t, b, lineOf(box(3, 3, 8, 7), 1, 3))
		makes(t, s, ten(), 3, []line.Size{z(5, 1), z(5, 1), z(5, 1)},
			lineOf(box(3, 3, 10, 4), 1, 5), lineOf(box(3, 4, 8, 5), 1, 5), lineOf(box(3, 5, 8, 6), 1, 5))
		if b.Y() != 3 {
			t.Error(b.Y())
		}
	}
	if !slices.Equal(s.Floats(), put) || !slices.Equal(s.Shelves(), shelves) {
		t.Error(s.Floats(), s.Shelves())
	}
	adds(t, b, z(2, 1), lineOf(box(3, 3, 8, 7), 2, 5))
}

// K5: what All answers is new memory.
func TestAllAnswersNewMemory(t *testing.T) {
	s, l := space.New(), []line.Size{z(4, 1), z(4, 1), z(4, 1)}
	first := line.All(s, ten(), 0, l)
	second := line.All(s, ten(), 0, l)
	first[0] = line.Line{}
	if second[0] != lineOf(box(0, 0, 10, 1), 2, 8) {
		t.Error(second)
	}
}

// K6: two builders in two spaces have nothing to do with each other; two in one space have its floats in common.
func TestBuildersStandApart(t *testing.T) {
	s, other := space.New(), space.New()
	a, b, c := line.New(s, ten(), 0), line.New(other, ten(), 0), line.New(s, ten(), 0)
	adds(t, a, z(4, 3), lineOf(box(0, 0, 10, 3), 1, 4))
	isNone(t, b, 0)
	isNone(t, c, 0)
	adds(t, b, z(1, 1), lineOf(box(0, 0, 10, 1), 1, 1))
	adds(t, c, z(2, 2), lineOf(box(0, 0, 10, 2), 1, 2))
	w, _ := wants(3, 5, 0)
	floats(t, s, a, w, box(0, 0, 3, 5), lineOf(box(3, 0, 10, 3), 1, 4))
	isNow(t, b, lineOf(box(0, 0, 10, 1), 1, 1))
	isNow(t, c, lineOf(box(3, 0, 10, 2), 1, 2))
	if len(other.Floats()) != 0 {
		t.Error(other.Floats())
	}
	ends(t, a, lineOf(box(3, 0, 10, 3), 1, 4))
	isNow(t, b, lineOf(box(0, 0, 10, 1), 1, 1))
	isNow(t, c, lineOf(box(3, 0, 10, 2), 1, 2))
	if b.Y() != 0 || c.Y() != 0 {
		t.Error(b.Y(), c.Y())
	}
}

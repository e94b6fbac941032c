package place_test

import (
	"math"
	"slices"
	"testing"

	"runaround/api"
	"runaround/place"
	"runaround/rect"
	"runaround/space"
)

// most is the greatest number of a want, -most the least one; floats stand from -end to end.
const (
	most = 1 << 48
	end  = 1 << 49
)

// left gives a left float in some columns and rows.
func left(from, to, top, bottom int) space.Float {
	return space.Float{Side: api.Left, Box: api.Rect{Left: from, Top: top, Right: to, Bottom: bottom}}
}

// right gives a right float in some columns and rows.
func right(from, to, top, bottom int) space.Float {
	return space.Float{Side: api.Right, Box: api.Rect{Left: from, Top: top, Right: to, Bottom: bottom}}
}

// of gives the space of floats, put into it in order.
func of(floats ...space.Float) *space.Space {
	s := space.New()
	for _, f := range floats {
		s.Put(f.Side, f.Box)
	}
	return s
}

// box gives a rectangle.
func box(left, top, right, bottom int) api.Rect {
	return api.Rect{Left: left, Top: top, Right: right, Bottom: bottom}
}

// wants give a left and a right want of some columns, which clear nothing, and may stand from a height on.
func wants(from, to, width, height, y int) (place.Want, place.Want) {
	w := place.Want{Side: api.Left, Columns: rect.Span{From: from, To: to}, Width: width, Height: height, From: y}
	r := w
	r.Side = api.Right
	return w, r
}

// starts tells it if a want doesn't start there.
func starts(t *testing.T, s *space.Space, w place.Want, want int) {
	t.Helper()
	if got := place.Start(s, w); got != want {
		t.Errorf("%v: %+v starts at %d, not at %d", s.Floats(), w, got, want)
	}
}

// stands tells it if a want may not stand at a height, or has another left edge there.
func stands(t *testing.T, s *space.Space, w place.Want, y, want int) {
	t.Helper()
	if got, ok := place.At(s, w, y); got != want || !ok {
		t.Errorf("%v: %+v at %d: %d, %t, not %d", s.Floats(), w, y, got, ok, want)
	}
}

// standsNot tells it if a want may stand at a height after all.
func standsNot(t *testing.T, s *space.Space, w place.Want, y int) {
	t.Helper()
	if got, ok := place.At(s, w, y); got != 0 || ok {
		t.Errorf("%v: %+v at %d: %d, %t", s.Floats(), w, y, got, ok)
	}
}

// finds tells it if another place is found, or if, put, it is anywhere else, or not put as it should be.
func finds(t *testing.T, s *space.Space, w place.Want, want api.Rect) {
	t.Helper()
	floats := s.Floats()
	if got := place.Find(s, w); got != want {
		t.Errorf("%v: %+v found at %v, not at %v", floats, w, got, want)
	}
	other := of(floats...)
	if got := place.Put(other, w); got != want {
		t.Errorf("%v: %+v put at %v, not at %v", floats, w, got, want)
	}
	if got := other.Floats(); !slices.Equal(got, append(floats, space.Float{Side: w.Side, Box: want})) {
		t.Errorf("%v: %+v put: %v", floats, w, got)
	}
}

// P11.2: the chapter's example.
func TestExample(t *testing.T) {
	s := space.New()
	w, _ := wants(0, 10, 3, 4, 0)
	if got := place.Put(s, w); got != box(0, 0, 3, 4) {
		t.Error(got)
	}
	if got := place.Put(s, w); got != box(3, 0, 6, 4) {
		t.Error(got)
	}
	if got := s.Floats(); !slices.Equal(got, []space.Float{left(0, 3, 0, 4), left(3, 6, 0, 4)}) {
		t.Error(got)
	}
}

// The document's first three examples of the whole, as far as places go.
func TestExamplesOfTheWhole(t *testing.T) {
	s := space.New()
	w, _ := wants(0, 5, 3, 4, 0)
	place.Put(s, w)
	finds(t, s, w, box(0, 4, 3, 8))
	s = space.New()
	w, r := wants(0, 6, 3, 4, 0)
	place.Put(s, r)
	finds(t, s, w, box(0, 0, 3, 4))
	w, r = wants(0, 10, 12, 1, 0)
	finds(t, space.New(), w, box(0, 0, 12, 1))
	finds(t, space.New(), r, box(-2, 0, 10, 1))
}

// P11.1: in an empty space a want starts at From, whatever it clears.
func TestStartInAnEmptySpace(t *testing.T) {
	for clear := api.None; clear <= api.Both; clear++ {
		for _, from := range []int{-most, -7, 0, 9, most} {
			w, r := wants(0, 10, 3, 4, from)
			w.Clear, r.Clear = clear, clear
			starts(t, space.New(), w, from)
			starts(t, space.New(), r, from)
		}
	}
}

// P11.1: where a want starts of each From and each Clear, in a space of some floats.
func TestStart(t *testing.T) {
	both := []space.Float{left(0, 3, 2, 9), right(8, 9, 4, 7)}
	for _, x := range []struct {
		floats []space.Float
		from   int
		want   [4]int // by Clear
	}{
		{both, 0, [4]int{4, 9, 7, 9}},
		{both, 4, [4]int{4, 9, 7, 9}},
		{both, 5, [4]int{5, 9, 7, 9}},
		{both, 7, [4]int{7, 9, 7, 9}},
		{both, 8, [4]int{8, 9, 8, 9}},
		{both, 9, [4]int{9, 9, 9, 9}},
		{both, 20, [4]int{20, 20, 20, 20}},
		{both, -most, [4]int{4, 9, 7, 9}},
		{both[:1], 0, [4]int{2, 9, 2, 9}},
		{both[:1], 3, [4]int{3, 9, 3, 9}},
		{both[:1], 10, [4]int{10, 10, 10, 10}},
		{both[1:], 0, [4]int{4, 4, 7, 7}},
		{both[1:], 6, [4]int{6, 6, 7, 7}},
		{both[1:], 8, [4]int{8, 8, 8, 8}},
		{[]space.Float{left(0, 3, 2, 5), left(3, 4, 2, 4)}, 0, [4]int{2, 5, 2, 5}},
		{[]space.Float{right(0, 3, 6, 8), right(3, 4, 2, 4)}, 0, [4]int{6, 6, 8, 8}},
		{[]space.Float{left(0, 3, 2, 20), right(6, 9, 5, 6), left(0, 1, 20, 22)}, 0, [4]int{20, 22, 20, 22}},
	} {
		for clear, want := range x.want {
			w, r := wants(0, 10, 3, 4, x.from)
			w.Clear, r.Clear = clear, clear
			starts(t, of(x.floats...), w, want)
			starts(t, of(x.floats...), r, want)
		}
	}
}

// P11.1: floats that aren't full hold off a start, too; one with a height below 0 ends above its top.
func TestStartOfFloatsThatAreNotFull(t *testing.T) {
	for _, x := range []struct {
		f    space.Float
		from int
		want [4]int
	}{
		{left(0, 3, 5, 5), 0, [4]int{5, 5, 5, 5}},
		{left(0, 0, 5, 8), 0, [4]int{5, 8, 5, 8}},
		{right(9, 7, 5, 8), 0, [4]int{5, 5, 8, 8}},
		{left(0, 3, 5, 1), 0, [4]int{5, 5, 5, 5}},
		{left(0, 3, 5, 1), -most, [4]int{5, 5, 5, 5}},
		{right(0, 3, -2, -9), -20, [4]int{-2, -2, -2, -2}},
		{right(0, 3, -2, -9), -1, [4]int{-1, -1, -1, -1}},
	} {
		for clear, want := range x.want {
			w, _ := wants(0, 10, 3, -4, x.from)
			w.Clear = clear
			starts(t, of(x.f), w, want)
		}
	}
	s := of(left(0, 3, 5, 1), left(0, 3, 6, 9), left(0, 3, 4, 12))
	w, _ := wants(0, 10, 3, 4, 0)
	starts(t, s, w, 6)
	w.Clear = api.Left
	starts(t, s, w, 12)
}

// P11.1: a start hangs on no Side, no Columns, and no size.
func TestStartHangsOnNoSize(t *testing.T) {
	s := of(left(0, 3, 2, 9), right(8, 9, 4, 7))
	for _, width := range []int{-most, -1, 0, 1, 90, most} {
		for _, height := range []int{-most, -1, 0, 1, 90, most} {
			for _, from := range []int{-most, 0, 70} {
				w, r := wants(from, from+5, width, height, 3)
				starts(t, s, w, 4)
				starts(t, s, r, 4)
				w.Clear, r.Clear = api.Right, api.Right
				starts(t, s, w, 7)
				starts(t, s, r, 7)
			}
		}
	}
}

// P11.1: At looks at the height it is asked of, above where a want starts, there, and below it.
func TestAtHangsOnNoStart(t *testing.T) {
	s := of(left(0, 3, 2, 5), right(8, 10, 4, 7))
	w, r := wants(0, 10, 6, 1, 6)
	w.Clear, r.Clear = api.Both, api.Both
	starts(t, s, w, 7)
	for _, y := range []int{math.MinInt, -end, -3, 1, 7, 8, end, math.MaxInt} {
		stands(t, s, w, y, 0)
		stands(t, s, r, y, 4)
	}
	for _, y := range []int{2, 3} {
		stands(t, s, w, y, 3)
		stands(t, s, r, y, 4)
	}
	standsNot(t, s, w, 4)
	standsNot(t, s, r, 4)
	for _, y := range []int{5, 6} {
		stands(t, s, w, y, 0)
		stands(t, s, r, y, 2)
	}
}

// P11.1: with room in all its Columns: as long as they are, less, and of no length.
func TestAtWithAllRoom(t *testing.T) {
	for _, s := range []*space.Space{space.New(), of(left(0, 4, 5, 9), right(5, 9, 5, 9)), of(left(2, 2, 0, 3), right(9, 4, 0, 3))} {
		for _, width := range []int{0, 1, 9, 10} {
			w, r := wants(-3, 7, width, 2, 0)
			stands(t, s, w, 0, -3)
			stands(t, s, r, 0, 7-width)
		}
		w, r := wants(4, 4, 0, 5, 0)
		stands(t, s, w, 0, 4)
		stands(t, s, r, 0, 4)
	}
}

// P11.1: beside one float, of either side: just as much room as its Width, and one less.
func TestAtBesideOne(t *testing.T) {
	s := of(left(0, 3, 2, 5))
	w, r := wants(0, 10, 7, 2, 0)
	stands(t, s, w, 3, 3)
	stands(t, s, r, 3, 3)
	w, r = wants(0, 10, 4, 2, 0)
	stands(t, s, w, 3, 3)
	stands(t, s, r, 3, 6)
	w, r = wants(0, 10, 8, 2, 0)
	standsNot(t, s, w, 3)
	standsNot(t, s, r, 3)
	s = of(right(6, 10, 2, 5))
	w, r = wants(0, 10, 6, 2, 0)
	stands(t, s, w, 3, 0)
	stands(t, s, r, 3, 0)
	w, r = wants(0, 10, 5, 2, 0)
	stands(t, s, w, 3, 0)
	stands(t, s, r, 3, 1)
	w, r = wants(0, 10, 7, 2, 0)
	standsNot(t, s, w, 3)
	standsNot(t, s, r, 3)
}

// P11.1: between two floats.
func TestAtBetweenTwo(t *testing.T) {
	s := of(left(0, 3, 2, 5), right(8, 10, 3, 7))
	for y, most := range map[int]int{1: 10, 2: 7, 3: 5, 4: 5, 5: 8, 6: 8, 7: 10} {
		a, b := 0, 10
		if y >= 2 && y < 5 {
			a = 3
		}
		if y >= 3 && y < 7 {
			b = 8
		}
		for width := range most + 1 {
			w, r := wants(0, 10, width, 1, 0)
			stands(t, s, w, y, a)
			stands(t, s, r, y, b-width)
		}
		if most < 10 {
			w, r := wants(0, 10, most+1, 1, 0)
			standsNot(t, s, w, y)
			standsNot(t, s, r, y)
		}
	}
	// the greatest edge of left ones, and the least one of right ones, count
	s = of(left(0, 3, 0, 9), left(3, 5, 0, 9), left(0, 2, 0, 9), right(9, 10, 0, 9), right(8, 9, 0, 9), right(9, 12, 0, 9))
	w, r := wants(0, 10, 3, 1, 0)
	stands(t, s, w, 4, 5)
	stands(t, s, r, 4, 5)
	w, r = wants(0, 10, 4, 1, 0)
	standsNot(t, s, w, 4)
	standsNot(t, s, r, 4)
}

// P11.1: Columns that lie beside all floats: where a float's outer side is turned to them they are all free.
func TestAtBesideAllFloats(t *testing.T) {
	s := of(left(0, 3, 2, 5), right(20, 22, 2, 5))
	w, r := wants(5, 15, 10, 2, 0)
	stands(t, s, w, 3, 5)
	stands(t, s, r, 3, 5)
	w, r = wants(3, 20, 17, 2, 0)
	stands(t, s, w, 3, 3)
	stands(t, s, r, 3, 3)
	// columns left of a left float, and right of a right one, are held off by it
	w, r = wants(-8, -3, 2, 2, 0)
	standsNot(t, s, w, 3)
	standsNot(t, s, r, 3)
	w, r = wants(30, 35, 2, 2, 0)
	standsNot(t, s, w, 3)
	standsNot(t, s, r, 3)
}

// P11.1: Columns of no length: what has a Width is wider than these, and goes as such.
func TestAtOfNoLength(t *testing.T) {
	s := of(left(0, 3, 2, 5), right(8, 10, 2, 5))
	for _, at := range []int{3, 4, 8} {
		w, r := wants(at, at, 0, 1, 0)
		stands(t, s, w, 2, at)
		stands(t, s, r, 2, at)
	}
	for _, at := range []int{2, 9} {
		w, r := wants(at, at, 0, 1, 0)
		standsNot(t, s, w, 2)
		standsNot(t, s, r, 2)
	}
	w, r := wants(5, 5, 3, 1, 0)
	stands(t, s, w, 2, 5)
	standsNot(t, s, r, 2)
	w, r = wants(6, 6, 3, 1, 0)
	standsNot(t, s, w, 2)
	stands(t, s, r, 2, 3)
}

// P11.1: wider than its Columns, where nothing floats: at its own side, however wide.
func TestAtWiderWhereNothingFloats(t *testing.T) {
	for _, s := range []*space.Space{space.New(), of(left(0, 4, 5, 9), right(5, 9, 5, 9)), of(left(2, 2, 0, 3), right(9, 4, 0, 3))} {
		for _, width := range []int{11, 12, 400, most} {
			w, r := wants(0, 10, width, 2, 0)
			stands(t, s, w, 0, 0)
			stands(t, s, r, 0, 10-width)
		}
	}
}

// P11.1: wider than its Columns: a float of its own side holds it off, if it reaches into them, or stands beyond them.
func TestAtWiderHeldOff(t *testing.T) {
	w, r := wants(0, 10, 12, 2, 0)
	for _, edge := range []int{-5, -1, 0} {
		stands(t, of(left(edge-3, edge, 2, 5)), w, 3, 0)
		stands(t, of(right(10-edge, 13-edge, 2, 5)), r, 3, -2)
	}
	for _, edge := range []int{1, 5, 10, 15} {
		standsNot(t, of(left(edge-3, edge, 2, 5)), w, 3)
		standsNot(t, of(right(10-edge, 13-edge, 2, 5)), r, 3)
	}
}

// P11.1: wider than its Columns: a float of the other side may stand beyond them, but not where it would.
func TestAtWiderReachedInto(t *testing.T) {
	w, r := wants(0, 10, 14, 2, 0)
	for _, edge := range []int{14, 15, 90} {
		stands(t, of(right(edge, edge+3, 2, 5)), w, 3, 0)
		stands(t, of(left(7-edge, 10-edge, 2, 5)), r, 3, -4)
	}
	for _, edge := range []int{13, 11, 10, 9, 1, 0, -1, -7} {
		standsNot(t, of(right(edge, edge+3, 2, 5)), w, 3)
		standsNot(t, of(left(7-edge, 10-edge, 2, 5)), r, 3)
	}
}

// P11.1: just as wide as its Columns it isn't wider: it has to have room, and what stands beyond them is nothing to it.
func TestAtJustAsWide(t *testing.T) {
	for _, s := range []*space.Space{of(right(10, 12, 2, 5)), of(left(-3, 0, 2, 5)), of(left(-9, -1, 2, 5), right(11, 12, 2, 5))} {
		w, r := wants(0, 10, 10, 2, 0)
		stands(t, s, w, 3, 0)
		stands(t, s, r, 3, 0)
	}
	for _, s := range []*space.Space{of(right(9, 12, 2, 5)), of(left(-3, 1, 2, 5))} {
		w, r := wants(0, 10, 10, 2, 0)
		standsNot(t, s, w, 3)
		standsNot(t, s, r, 3)
	}
}

// P11.1: Widths of 0 and below: they stand between floats that stand over each other, too.
func TestAtOfNoWidth(t *testing.T) {
	s := of(left(0, 6, 2, 5), right(4, 10, 2, 5))
	w, r := wants(0, 10, -2, 1, 0)
	stands(t, s, w, 2, 6)
	stands(t, s, r, 2, 6)
	w, r = wants(0, 10, -5, 1, 0)
	stands(t, s, w, 2, 6)
	stands(t, s, r, 2, 9)
	for _, width := range []int{-1, 0, 1} {
		w, r = wants(0, 10, width, 1, 0)
		standsNot(t, s, w, 2)
		standsNot(t, s, r, 2)
	}
	s = of(left(0, 5, 2, 5), right(5, 10, 2, 5))
	w, r = wants(0, 10, 0, 1, 0)
	stands(t, s, w, 2, 5)
	stands(t, s, r, 2, 5)
	w, r = wants(0, 10, 1, 1, 0)
	standsNot(t, s, w, 2)
	standsNot(t, s, r, 2)
	w, r = wants(3, 7, -4, 1, 0)
	stands(t, space.New(), w, 0, 3)
	stands(t, space.New(), r, 0, 11)
}

// P11.1: it has as many rows as its Height, but one at least.
func TestAtInAllRows(t *testing.T) {
	s := of(left(0, 3, 5, 7), right(6, 10, 9, 10))
	for _, x := range []struct {
		y, height    int
		atLeft, some int
	}{
		{4, 1, 0, 10}, {4, 2, 3, 7}, {3, 2, 0, 10}, {3, 3, 3, 7}, {5, 1, 3, 7}, {6, 1, 3, 7}, {7, 1, 0, 10},
		{7, 2, 0, 10}, {7, 3, 0, 6}, {6, 3, 3, 7}, {6, 4, 3, 3}, {0, 9, 3, 7}, {0, 10, 3, 3}, {-90, 400, 3, 3},
		{5, 0, 3, 7}, {5, -1, 3, 7}, {5, -90, 3, 7}, {4, 0, 0, 10}, {7, -2, 0, 10}, {8, 0, 0, 10}, {9, 0, 0, 6},
		{9, -3, 0, 6}, {10, -3, 0, 10}, {10, 300, 0, 10},
	} {
		w, r := wants(0, 10, x.some, x.height, 0)
		stands(t, s, w, x.y, x.atLeft)
		stands(t, s, r, x.y, x.atLeft)
		if x.some < 10 {
			w, r = wants(0, 10, x.some+1, x.height, 0)
			standsNot(t, s, w, x.y)
			standsNot(t, s, r, x.y)
		}
	}
}

// P11.2: found at the start, where there is room there, whatever lies below.
func TestFindAtStart(t *testing.T) {
	s := of(left(0, 3, 2, 9), right(8, 10, 4, 7))
	w, r := wants(0, 10, 5, 2, 0)
	finds(t, s, w, box(3, 4, 8, 6))
	finds(t, s, r, box(3, 4, 8, 6))
	w, r = wants(0, 10, 5, 90, 6)
	finds(t, s, w, box(3, 6, 8, 96))
	finds(t, s, r, box(3, 6, 8, 96))
	w, r = wants(0, 10, 4, 0, 5)
	finds(t, s, w, box(3, 5, 7, 5))
	finds(t, s, r, box(4, 5, 8, 5))
	w, r = wants(0, 10, 7, 1, 8)
	finds(t, s, w, box(3, 8, 10, 9))
	finds(t, s, r, box(3, 8, 10, 9))
	w, r = wants(0, 10, 10, 1, 0)
	w.Clear, r.Clear = api.Both, api.Left
	finds(t, s, w, box(0, 9, 10, 10))
	finds(t, s, r, box(0, 9, 10, 10))
	w, r = wants(-5, 5, 3, 3, -7)
	finds(t, space.New(), w, box(-5, -7, -2, -4))
	finds(t, space.New(), r, box(2, -7, 5, -4))
}

// P11.2: found where a shelf begins below the start.
func TestFindAtAShelf(t *testing.T) {
	s := of(left(0, 3, 0, 9), right(8, 10, 0, 7), right(6, 8, 0, 5))
	w, r := wants(0, 10, 4, 3, 0)
	finds(t, s, w, box(3, 5, 7, 8))
	finds(t, s, r, box(4, 5, 8, 8))
	w, r = wants(0, 10, 5, 30, 1)
	finds(t, s, w, box(3, 5, 8, 35))
	finds(t, s, r, box(3, 5, 8, 35))
	w, r = wants(0, 10, 6, 1, 1)
	finds(t, s, w, box(3, 7, 9, 8))
	finds(t, s, r, box(4, 7, 10, 8))
	w, r = wants(0, 6, 4, 1, 6)
	finds(t, s, w, box(0, 9, 4, 10))
	finds(t, s, r, box(2, 9, 6, 10))
	w, r = wants(4, 6, 5, 2, 1)
	finds(t, s, w, box(4, 7, 9, 9))
	finds(t, s, r, box(1, 9, 6, 11))
}

// P11.2: found below all floats alone: too wide for the room beside any, or held off by all of them.
func TestFindBelowAll(t *testing.T) {
	s := of(left(0, 3, 0, 9), right(8, 10, 2, 12), left(3, 4, 3, 14))
	w, r := wants(0, 10, 10, 2, 0)
	finds(t, s, w, box(0, 14, 10, 16))
	finds(t, s, r, box(0, 14, 10, 16))
	w, r = wants(0, 10, 12, 2, 0)
	finds(t, s, w, box(0, 14, 12, 16))
	finds(t, s, r, box(-2, 14, 10, 16))
	w, r = wants(-20, -10, 1, -4, 5)
	finds(t, s, w, box(-20, 14, -19, 10))
	finds(t, s, r, box(-11, 14, -10, 10))
	w, r = wants(0, 10, 30, 0, 40)
	finds(t, s, w, box(0, 40, 30, 40))
	finds(t, s, r, box(-20, 40, 10, 40))
}

// P11.2: floats that aren't full are in nobody's way, but hold off a start.
func TestFindOverFloatsThatAreNotFull(t *testing.T) {
	s := of(left(0, 5, 4, 4), right(6, 4, 5, 9), left(0, 7, 6, 2))
	w, r := wants(0, 10, 10, 3, 0)
	finds(t, s, w, box(0, 6, 10, 9))
	finds(t, s, r, box(0, 6, 10, 9))
	w.Clear = api.Right
	finds(t, s, w, box(0, 9, 10, 12))
}

// P11.1 and P11.2: the greatest and the least numbers of wants.
func TestFarWants(t *testing.T) {
	s := space.New()
	w, r := wants(-most, most, most, most, most)
	finds(t, s, w, box(-most, most, 0, 2*most))
	finds(t, s, r, box(0, most, most, 2*most))
	w, r = wants(most, most, most, -most, -most)
	finds(t, s, w, box(most, -most, 2*most, -2*most))
	finds(t, s, r, box(0, -most, most, -2*most))
	w, r = wants(-most, -most, most, 1, 0)
	finds(t, s, w, box(-most, 0, 0, 1))
	finds(t, s, r, box(-2*most, 0, -most, 1))
	w, r = wants(most, most, -most, 0, most)
	finds(t, s, w, box(most, most, 0, most))
	finds(t, s, r, box(2*most, most, most, most))
	w, r = wants(-most, -most, -most, -most, most)
	finds(t, s, w, box(-most, most, -2*most, 0))
	finds(t, s, r, box(0, most, -most, 0))
}

// P11.1: floats that stand as far as they may, beside wants of the greatest and the least numbers.
func TestAtOfFarFloats(t *testing.T) {
	s := of(left(-end, 1-end, -end, end), right(end-1, end, -end, end))
	for _, y := range []int{-end, 0, most, end - 1, end} {
		w, r := wants(-most, most, most, most, y/2)
		stands(t, s, w, y, -most)
		stands(t, s, r, y, 0)
		w, r = wants(most, most, most-1, -most, 0)
		stands(t, s, w, y, most)
		stands(t, s, r, y, 1)
	}
	w, _ := wants(most, most, most, 1, 0)
	standsNot(t, s, w, 0)
	stands(t, s, w, end, most)
	stands(t, s, w, -end-1, most)
	w.Height = 2
	standsNot(t, s, w, -end-1)
	_, r := wants(-most, -most, most, 1, 0)
	standsNot(t, s, r, 0)
	stands(t, s, r, end, -end)
	s = of(left(-end, end, -end, end), right(-end, end, -end, end))
	w, r = wants(-most, most, -most, most, 0)
	standsNot(t, s, w, 0)
	standsNot(t, s, r, 0)
	w, r = wants(-most, most, -most, most, most)
	stands(t, s, w, end, -most)
	stands(t, s, r, end, end)
	s = of(left(-end, end, 0, end))
	w, r = wants(most, most, -most, 1, 0)
	stands(t, s, w, 0, end)
	stands(t, s, r, 0, end)
}

// P11.1: any height may be asked of: what lies beyond the first row, and the last one, is free.
func TestAtOfAnyHeight(t *testing.T) {
	s := of(left(-end, end, -end, end))
	for _, height := range []int{-most, 0, 1, most} {
		w, r := wants(-most, most, most, height, 0)
		for _, y := range []int{math.MinInt, math.MinInt + 1, -1 << 60, 1 << 60, math.MaxInt - most, math.MaxInt - 1, math.MaxInt} {
			stands(t, s, w, y, -most)
			stands(t, s, r, y, 0)
		}
	}
}

// P11.1 and P11.2: where floats that stand as far as they may let a want start, and stand.
func TestFindOfFarFloats(t *testing.T) {
	s := of(left(-end, end, -end, end))
	w, r := wants(-most, most, most, most, -most)
	starts(t, s, w, -most)
	finds(t, s, w, box(-most, end, 0, end+most))
	finds(t, s, r, box(0, end, most, end+most))
	s = of(right(end-2, end-1, end-1, end))
	starts(t, s, w, end-1)
	finds(t, s, w, box(-most, end-1, 0, end-1+most))
	w.Clear = api.Left
	starts(t, s, w, end-1)
	w.Clear = api.Right
	starts(t, s, w, end)
	s = of(left(-end, end, -end, 1-end))
	starts(t, s, w, -most)
	w.Clear = api.Both
	starts(t, s, w, -most)
	w, _ = wants(most, most, most, -most, most)
	finds(t, of(right(end-1, end, 0, end)), w, box(most, end, end, end-most))
}

package space_test

import (
	"math"
	"slices"
	"testing"

	"runaround/api"
	"runaround/rect"
	"runaround/space"
)

// far is farther than anything. most is the greatest number of a float, -most the least one.
const (
	far  = 1 << 52
	most = 1<<51 - 1
)

// left gives a left float up to a right edge, in some rows.
func left(edge, top, bottom int) space.Float {
	return space.Float{Side: api.Left, Box: api.Rect{Left: edge - 4, Top: top, Right: edge, Bottom: bottom}}
}

// right gives a right float from a left edge on, in some rows.
func right(edge, top, bottom int) space.Float {
	return space.Float{Side: api.Right, Box: api.Rect{Left: edge, Top: top, Right: edge + 4, Bottom: bottom}}
}

// of gives the space of floats, put into it in order.
func of(floats ...space.Float) *space.Space {
	s := space.New()
	for _, f := range floats {
		s.Put(f.Side, f.Box)
	}
	return s
}

// span gives a span.
func span(from, to int) rect.Span { return rect.Span{From: from, To: to} }

// clears are numbers that may be asked to be cleared, those that clear something and others.
func clears() []int {
	return []int{api.None, api.Left, api.Right, api.Both, 4, 5, -1, -2, math.MinInt, math.MaxInt}
}

// has tells it if a space's floats aren't these.
func has(t *testing.T, s *space.Space, want ...space.Float) {
	t.Helper()
	if got := s.Floats(); !slices.Equal(got, want) {
		t.Errorf("%v, not %v", got, want)
	}
}

// last tells it if a space's lowest Top isn't this.
func last(t *testing.T, s *space.Space, want int) {
	t.Helper()
	if got, ok := s.Last(); got != want || !ok {
		t.Errorf("%v: last %d, %t, not %d", s.Floats(), got, ok, want)
	}
}

// bottom tells it if the lowest Bottom of what is cleared isn't this, or if Clear doesn't go by it.
func bottom(t *testing.T, s *space.Space, clear, want int) {
	t.Helper()
	if got, ok := s.Bottom(clear); got != want || !ok {
		t.Errorf("%v: bottom of %d: %d, %t, not %d", s.Floats(), clear, got, ok, want)
	}
	for _, y := range []int{math.MinInt, -far, -most, -1, 0, 1, want - 1, want, want + 1, most, far, math.MaxInt} {
		if got := s.Clear(clear, y); got != max(y, want) {
			t.Errorf("%v: clear of %d from %d on: %d, not %d", s.Floats(), clear, y, got, max(y, want))
		}
	}
}

// noBottom tells it if something is cleared after all.
func noBottom(t *testing.T, s *space.Space, clear int) {
	t.Helper()
	if got, ok := s.Bottom(clear); got != 0 || ok {
		t.Errorf("%v: bottom of %d: %d, %t", s.Floats(), clear, got, ok)
	}
	for _, y := range []int{math.MinInt, -far, -most, -7, -1, 0, 1, 7, most, far, math.MaxInt} {
		if got := s.Clear(clear, y); got != y {
			t.Errorf("%v: clear of %d from %d on: %d", s.Floats(), clear, y, got)
		}
	}
}

// bounds tells it if the bounds of rows aren't these.
func bounds(t *testing.T, s *space.Space, rows, want rect.Span) {
	t.Helper()
	if got := s.Bounds(rows); got != want {
		t.Errorf("%v: bounds of %v: %v, not %v", s.Floats(), rows, got, want)
	}
}

// P10.1 and P10.2: a new space has no floats, and leaves all free.
func TestNew(t *testing.T) {
	s := space.New()
	has(t, s)
	if n, ok := s.Last(); n != 0 || ok {
		t.Error(n, ok)
	}
	for _, clear := range clears() {
		noBottom(t, s, clear)
	}
	for _, rows := range []rect.Span{span(0, 1), span(-most, most), span(-most, most+1), span(7, 7), span(7, 2), span(-far, far)} {
		bounds(t, s, rows, span(-far, far))
		for _, columns := range []rect.Span{span(0, 10), span(-9, -3), span(4, 4), span(9, 2), span(-most, most), span(-far, far)} {
			if got := s.Free(columns, rows); got != columns {
				t.Error(columns, rows, got)
			}
		}
	}
}

// notFull gives rectangles without a point.
func notFull() []api.Rect {
	return []api.Rect{
		{},
		{Left: 5, Top: 2, Right: 5, Bottom: 6},
		{Left: 5, Top: 2, Right: 9, Bottom: 2},
		{Left: 9, Top: 2, Right: 5, Bottom: 6},
		{Left: 5, Top: 6, Right: 9, Bottom: 2},
		{Left: 9, Top: 6, Right: 5, Bottom: 2},
		{Left: most, Top: -most, Right: -most, Bottom: most},
		{Left: -most, Top: most, Right: most, Bottom: -most},
	}
}

// P10.1: floats of both sides, full and not full ones, stand in the order in which they were put, as they were put.
func TestFloatsInOrder(t *testing.T) {
	floats := []space.Float{right(8, 3, 9), left(3, 2, 5), left(3, 2, 5), right(-7, -9, -4), left(0, 9, 9)}
	for _, box := range notFull() {
		floats = append(floats, space.Float{Side: api.Right, Box: box}, space.Float{Side: api.Left, Box: box})
	}
	floats = append(floats, left(3, 2, 5), left(most, -most, most), right(-most, -most, most))
	s := space.New()
	for i, f := range floats {
		has(t, s, floats[:i]...)
		s.Put(f.Side, f.Box)
	}
	has(t, s, floats...)
}

// P10.1: of no other side there is a float.
func TestNeitherSide(t *testing.T) {
	for _, side := range []int{api.None, api.Both, 4, 5, -1, -2, math.MinInt, math.MaxInt} {
		other := space.Float{Side: side, Box: api.Rect{Left: -3, Top: 50, Right: 9, Bottom: 70}}
		s := of(other)
		has(t, s)
		if n, ok := s.Last(); n != 0 || ok {
			t.Error(side, n, ok)
		}
		for _, clear := range clears() {
			noBottom(t, s, clear)
		}
		s = of(left(3, 2, 5), other, right(8, 4, 7), other)
		has(t, s, left(3, 2, 5), right(8, 4, 7))
		last(t, s, 4)
		bottom(t, s, api.Left, 5)
		bottom(t, s, api.Right, 7)
		bottom(t, s, api.Both, 7)
		bounds(t, s, span(0, 90), span(3, 8))
		bounds(t, s, span(50, 70), span(-far, far))
	}
}

// P10.1: Last of Tops that rise, fall, and are alike, above 0 and below, of full floats and others.
func TestLast(t *testing.T) {
	for _, c := range []struct {
		tops []int
		want int
	}{
		{[]int{0}, 0}, {[]int{7}, 7}, {[]int{-7}, -7}, {[]int{-1}, -1}, {[]int{1}, 1},
		{[]int{1, 2, 9}, 9}, {[]int{9, 2, 1}, 9}, {[]int{2, 9, 1}, 9}, {[]int{4, 4, 4}, 4},
		{[]int{-9, -2, -1}, -1}, {[]int{-1, -2, -9}, -1}, {[]int{-2, -1, -9}, -1}, {[]int{-4, -4}, -4},
		{[]int{-3, 0}, 0}, {[]int{0, -3}, 0}, {[]int{-3, 3}, 3}, {[]int{3, -3}, 3}, {[]int{0, 0}, 0},
		{[]int{-most}, -most}, {[]int{most}, most}, {[]int{-most, most, 0}, most}, {[]int{-most, 1 - most}, 1 - most},
	} {
		for _, high := range []int{3, 1, 0, -1, -5} {
			s := space.New()
			for i, top := range c.tops {
				s.Put(1+i%2, api.Rect{Left: i, Top: top, Right: i + 2, Bottom: top + high})
			}
			last(t, s, c.want)
		}
	}
}

// P10.1: a float that has no columns, or no rows, has a Top like any other.
func TestLastOfFloatsThatAreNotFull(t *testing.T) {
	last(t, of(left(3, 2, 5), left(3, 9, 9), right(8, 4, 7)), 9)
	last(t, of(left(3, 2, 5), left(3, 9, 1), right(8, 4, 7)), 9)
	last(t, of(space.Float{Side: api.Right, Box: api.Rect{Left: 5, Top: 12, Right: 5, Bottom: 14}}, left(3, 2, 5)), 12)
	last(t, of(space.Float{Side: api.Left, Box: api.Rect{Left: 5, Top: 12, Right: 2, Bottom: 14}}, left(3, 2, 5)), 12)
	last(t, of(space.Float{Side: api.Left}), 0)
}

// P10.1: Bottom and Clear of floats of one side alone.
func TestBottomOfOneSide(t *testing.T) {
	for _, c := range []struct {
		bottoms []int
		want    int
	}{
		{[]int{0}, 0}, {[]int{5}, 5}, {[]int{-5}, -5}, {[]int{-1}, -1}, {[]int{1}, 1},
		{[]int{3, 5, 9}, 9}, {[]int{9, 5, 3}, 9}, {[]int{5, 9, 3}, 9}, {[]int{6, 6}, 6},
		{[]int{-3, -5, -9}, -3}, {[]int{-9, -5, -3}, -3}, {[]int{-9, -3, -5}, -3}, {[]int{-6, -6}, -6},
		{[]int{-3, 4}, 4}, {[]int{4, -3}, 4}, {[]int{-3, 0}, 0}, {[]int{0, -3}, 0},
		{[]int{-most}, -most}, {[]int{most}, most}, {[]int{-most, most}, most},
	} {
		var lefts, rights []space.Float
		for i, b := range c.bottoms {
			lefts, rights = append(lefts, left(i, b-2, b)), append(rights, right(i, b-2, b))
		}
		s := of(lefts...)
		bottom(t, s, api.Left, c.want)
		bottom(t, s, api.Both, c.want)
		noBottom(t, s, api.Right)
		noBottom(t, s, api.None)
		s = of(rights...)
		bottom(t, s, api.Right, c.want)
		bottom(t, s, api.Both, c.want)
		noBottom(t, s, api.Left)
		noBottom(t, s, api.None)
	}
}

// P10.1: Bottom and Clear of floats of both sides.
func TestBottomOfBothSides(t *testing.T) {
	for _, c := range []struct{ left, right int }{{5, 9}, {9, 5}, {7, 7}, {-5, -9}, {-9, -5}, {-3, 0}, {0, -3}, {-2, 2}, {2, -2}, {most, -most}} {
		for _, floats := range [][]space.Float{
			{left(3, c.left-4, c.left), right(8, c.right-2, c.right)},
			{right(8, c.right-2, c.right), left(3, c.left-4, c.left)},
			{right(8, c.right-3, c.right-1), left(3, c.left-4, c.left), right(8, c.right-2, c.right), left(2, c.left-1, c.left)},
			{left(3, c.left-4, c.left), right(8, c.right-2, c.right), left(3, c.left-9, c.left-2), right(8, c.right-2, c.right)},
		} {
			s := of(floats...)
			bottom(t, s, api.Left, c.left)
			bottom(t, s, api.Right, c.right)
			bottom(t, s, api.Both, max(c.left, c.right))
			noBottom(t, s, api.None)
		}
	}
}

// P10.1: None clears no float, and so does what is no clear.
func TestWhatClearsNothing(t *testing.T) {
	s := of(left(3, 2, 5), right(8, 4, 70), left(3, 9, 1))
	for _, clear := range clears() {
		if clear < api.Left || clear > api.Both {
			noBottom(t, s, clear)
		}
	}
}

// P10.1: a float whose Bottom is above its Top, or that is not full for another reason, has a Bottom like any other.
func TestBottomOfFloatsThatAreNotFull(t *testing.T) {
	s := of(left(3, 9, 1))
	bottom(t, s, api.Left, 1)
	bottom(t, s, api.Both, 1)
	last(t, s, 9)
	s = of(left(3, 9, -4), right(8, 6, 2))
	bottom(t, s, api.Left, -4)
	bottom(t, s, api.Right, 2)
	bottom(t, s, api.Both, 2)
	s = of(left(3, 0, 4), left(3, 9, 6), left(3, 12, 1))
	bottom(t, s, api.Left, 6)
	s = of(left(3, 0, 4), right(8, 9, 9), space.Float{Side: api.Left, Box: api.Rect{Left: 5, Top: 2, Right: 5, Bottom: 11}})
	bottom(t, s, api.Left, 11)
	bottom(t, s, api.Right, 9)
	bottom(t, s, api.Both, 11)
	s = of(space.Float{Side: api.Right, Box: api.Rect{Left: 5, Top: 2, Right: 1, Bottom: 11}})
	bottom(t, s, api.Right, 11)
	s = of(space.Float{Side: api.Left, Box: api.Rect{Left: -most, Top: most, Right: most, Bottom: -most}})
	bottom(t, s, api.Both, -most)
	last(t, s, most)
}

// P10.1: y above, at, and below what is cleared.
func TestClear(t *testing.T) {
	s := of(left(3, 2, 5), right(8, 4, 9), left(2, -6, -3))
	for _, c := range []struct{ clear, y, want int }{
		{api.Left, -2, 5}, {api.Left, 4, 5}, {api.Left, 5, 5}, {api.Left, 6, 6}, {api.Left, 8, 8},
		{api.Right, -2, 9}, {api.Right, 8, 9}, {api.Right, 9, 9}, {api.Right, 10, 10},
		{api.Both, -2, 9}, {api.Both, 6, 9}, {api.Both, 8, 9}, {api.Both, 9, 9}, {api.Both, 10, 10}, {api.Both, most, most},
		{api.None, -2, -2}, {api.None, 0, 0}, {api.None, 3, 3}, {api.None, 50, 50},
	} {
		if got := s.Clear(c.clear, c.y); got != c.want {
			t.Error(c, got)
		}
	}
}

// P10.2: as many rows as the height, but one at least.
func TestRows(t *testing.T) {
	for _, y := range []int{-most, -9, -1, 0, 1, 4, most} {
		for _, c := range []struct{ height, rows int }{
			{2, 2}, {3, 3}, {90, 90}, {1 << 50, 1 << 50}, {1, 1}, {0, 1}, {-1, 1}, {-2, 1}, {-9, 1}, {-most, 1}, {math.MinInt, 1},
		} {
			if got := space.Rows(y, c.height); got != span(y, y+c.rows) {
				t.Error(y, c, got)
			}
		}
	}
}

// P10.2: rows ahead of all floats, beside one, over some, and below all; and no rows.
func TestBounds(t *testing.T) {
	s := of(left(3, 2, 5), right(8, 4, 7), left(6, 9, 10), right(5, 12, 20), left(99, 6, 6), right(-99, 6, 3))
	for _, c := range []struct{ rows, want rect.Span }{
		{span(-9, 2), span(-far, far)}, {span(1, 2), span(-far, far)}, {span(-most, 2), span(-far, far)}, {span(1, 3), span(3, far)},
		{span(2, 3), span(3, far)}, {span(3, 4), span(3, far)}, {span(4, 5), span(3, 8)}, {span(5, 6), span(-far, 8)}, {span(6, 7), span(-far, 8)},
		{span(2, 7), span(3, 8)}, {span(6, 10), span(6, 8)}, {span(4, 13), span(6, 5)}, {span(2, 20), span(6, 5)}, {span(7, 9), span(-far, far)},
		{span(10, 12), span(-far, far)}, {span(19, 20), span(-far, 5)}, {span(19, 99), span(-far, 5)}, {span(20, 21), span(-far, far)},
		{span(99, most+1), span(-far, far)}, {span(-most, most+1), span(6, 5)}, {span(-most, 3), span(3, far)},
		{span(4, 4), span(-far, far)}, {span(5, 2), span(-far, far)}, {span(most, -most), span(-far, far)}, {span(0, 0), span(-far, far)},
	} {
		bounds(t, s, c.rows, c.want)
	}
}

// P10.2: bounds of floats that hide one another: of each side the one that reaches farthest in counts, whenever it was put.
func TestBoundsOfTheFarthest(t *testing.T) {
	for _, floats := range [][]space.Float{
		{left(3, 0, 4), left(5, 2, 6), right(8, 1, 9), right(9, 0, 9)},
		{left(5, 2, 6), left(3, 0, 4), right(9, 0, 9), right(8, 1, 9)},
		{right(8, 1, 9), left(5, 2, 6), left(4, 2, 6), right(9, 0, 9), left(3, 0, 4)},
	} {
		s := of(floats...)
		bounds(t, s, span(0, 1), span(3, 9))
		bounds(t, s, span(1, 2), span(3, 8))
		bounds(t, s, span(1, 3), span(5, 8))
		bounds(t, s, span(4, 6), span(5, 8))
		bounds(t, s, span(6, 9), span(-far, 8))
		bounds(t, s, span(9, 10), span(-far, far))
	}
}

// P10.2: Free of columns that lie within the bounds, beyond them at either side, and where nothing is left.
func TestFree(t *testing.T) {
	s := of(left(3, 2, 5), right(8, 4, 7), left(20, 10, 12), right(15, 10, 12))
	for _, c := range []struct{ columns, rows, want rect.Span }{
		{span(4, 7), span(4, 5), span(4, 7)}, {span(3, 8), span(4, 5), span(3, 8)}, {span(0, 10), span(4, 5), span(3, 8)},
		{span(0, 7), span(4, 5), span(3, 7)}, {span(4, 10), span(4, 5), span(4, 8)}, {span(2, 9), span(2, 7), span(3, 8)},
		{span(0, 10), span(0, 2), span(0, 10)}, {span(0, 10), span(2, 4), span(3, 10)}, {span(0, 10), span(5, 7), span(0, 8)},
		{span(0, 10), span(7, 10), span(0, 10)}, {span(-far, far), span(4, 5), span(3, 8)}, {span(-most, most), span(2, 3), span(3, most)},
		{span(-2, 2), span(4, 5), span(3, 2)}, {span(-2, 3), span(4, 5), span(3, 3)}, {span(8, 10), span(4, 5), span(8, 8)},
		{span(9, 12), span(4, 5), span(9, 8)}, {span(0, 10), span(10, 11), span(20, 10)}, {span(0, 30), span(10, 11), span(20, 15)},
		{span(17, 18), span(11, 12), span(20, 15)}, {span(5, 5), span(4, 5), span(5, 5)}, {span(7, 4), span(4, 5), span(7, 4)},
		{span(9, 1), span(4, 5), span(9, 1)}, {span(2, 1), span(4, 5), span(3, 1)}, {span(0, 10), span(4, 4), span(0, 10)},
		{span(0, 10), span(6, 2), span(0, 10)}, {span(0, 10), space.Rows(4, 0), span(3, 8)}, {span(0, 10), space.Rows(4, -3), span(3, 8)},
	} {
		if got := s.Free(c.columns, c.rows); got != c.want {
			t.Error(c, got)
		}
	}
}

// P10.1 and P10.2: the greatest and the least numbers that floats have.
func TestFarNumbers(t *testing.T) {
	all := api.Rect{Left: -most, Top: -most, Right: most, Bottom: most}
	s := of(space.Float{Side: api.Left, Box: all})
	bounds(t, s, span(-most, most), span(most, far))
	bounds(t, s, span(most, most+1), span(-far, far))
	bounds(t, s, span(-most-1, -most), span(-far, far))
	last(t, s, -most)
	bottom(t, s, api.Left, most)
	s.Put(api.Right, all)
	bounds(t, s, span(0, 1), span(most, -most))
	if got := s.Free(span(-most, most), span(0, 1)); got != span(most, -most) {
		t.Error(got)
	}
	first := api.Rect{Left: -most, Top: -most, Right: 1 - most, Bottom: 1 - most}
	end := api.Rect{Left: most - 1, Top: most - 1, Right: most, Bottom: most}
	s = of(space.Float{Side: api.Right, Box: end}, space.Float{Side: api.Left, Box: first})
	last(t, s, most-1)
	bottom(t, s, api.Left, 1-most)
	bottom(t, s, api.Right, most)
	bottom(t, s, api.Both, most)
	bounds(t, s, span(-most, most), span(1-most, most-1))
	bounds(t, s, span(-most, most-1), span(1-most, far))
	bounds(t, s, span(1-most, most), span(-far, most-1))
	if got := s.Free(span(-most, most), span(-most, most)); got != span(1-most, most-1) {
		t.Error(got)
	}
}
